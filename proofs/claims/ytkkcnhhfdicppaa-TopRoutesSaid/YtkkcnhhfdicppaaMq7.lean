import Derived.Test.YtkkcnhhfdicppaaUp7
import Derived.Maps.OwnOps
import Derived.DeepKeys4
namespace Go.Proofs.Ytkkcnhhfdicppaa
open Go.RowKit Lay
open Go.Maps (Keyed)
theorem kl_int (d : Nat) (x : Int) (hx : (Lit.int .i64 x).wf = true) : Try.prog.keyLits (d + 1) 3 [.int .i64 x] = some [.int .i64 x] := by
  simp [Program.keyLits, Try.underlying3, hx]
theorem c3 : Try.prog.cellsOf 3 = 1 := by kernel_rfl
theorem c26 : Try.prog.cellsOf 26 = 2 := by kernel_rfl
theorem c101 : Try.prog.cellsOf 101 = 3 := by kernel_rfl
theorem kl_xy (d : Nat) (x y : Int) (hx : (Lit.int .i64 x).wf = true) (hy : (Lit.int .i64 y).wf = true) : Try.prog.keyLits (d + 2) 26 [.int .i64 x, .int .i64 y] = some [.int .i64 x, .int .i64 y] := by
  unfold Program.keyLits
  rw [Try.underlying26]
  simp [c26, c3, kl_int, hx, hy]
theorem kl_st (d : Nat) (x y z : Int) (hx : (Lit.int .i64 x).wf = true) (hy : (Lit.int .i64 y).wf = true) (hz : (Lit.int .i64 z).wf = true) : Try.prog.keyLits (d + 3) 101 [.int .i64 x, .int .i64 y, .int .i64 z] = some [.int .i64 x, .int .i64 y, .int .i64 z] := by
  unfold Program.keyLits
  rw [Try.underlying101]
  simp [c101, c26, c3, kl_int, kl_xy, hx, hy, hz]
theorem laid0 : laidOutB Try.prog = true := by kernel_rfl
theorem law26 : WideMaps.KeyLaw Try.prog 26 := deep_law_laid laid0 (m := 2) (by omega) (of_decide_eq_true (by kernel_rfl)) (by kernel_rfl) (by rw [Try.underlying26])
theorem law101 : WideMaps.KeyLaw Try.prog 101 := deep_law_laid laid0 (m := 3) (by omega) (of_decide_eq_true (by kernel_rfl)) (by kernel_rfl) (by rw [Try.underlying101])
theorem key26 (x y : Int) (hx : (Lit.int .i64 x).wf = true) (hy : (Lit.int .i64 y).wf = true) : ∃ kl, keyOf Try.prog 26 (.agg #[.int .i64 x, .int .i64 y]) = some kl := by
  have h1 : Try.prog.keyType 26 = true := by kernel_rfl
  have h2 : (Value.agg #[.int .i64 x, .int .i64 y]).formed Try.prog 26 = true := by simp [Value.formed, Try.underlying26, c26]
  refine ⟨.string (keyBytes [.int .i64 x, .int .i64 y]), ?_⟩
  unfold keyOf
  simp [Try.underlying26, h1, h2, Value.cells, kl_xy _ x y hx hy]
theorem key101 (x y z : Int) (hx : (Lit.int .i64 x).wf = true) (hy : (Lit.int .i64 y).wf = true) (hz : (Lit.int .i64 z).wf = true) : ∃ kl, keyOf Try.prog 101 (.agg #[.int .i64 x, .int .i64 y, .int .i64 z]) = some kl := by
  have h1 : Try.prog.keyType 101 = true := by kernel_rfl
  have h2 : (Value.agg #[.int .i64 x, .int .i64 y, .int .i64 z]).formed Try.prog 101 = true := by simp [Value.formed, Try.underlying101, c101]
  refine ⟨.string (keyBytes [.int .i64 x, .int .i64 y, .int .i64 z]), ?_⟩
  unfold keyOf
  simp [Try.underlying101, h1, h2, Value.cells, kl_st _ x y z hx hy hz]

abbrev stV (x y d : Int) : Value := .agg #[.int .i64 x, .int .i64 y, .int .i64 d]
abbrev xyV (x y : Int) : Value := .agg #[.int .i64 x, .int .i64 y]
theorem ked101 : Keyed Try.prog 101 := Keyed.of_law law101
theorem ked26 : Keyed Try.prog 26 := Keyed.of_law law26
theorem zero3 (w : World) : (zeroValue 3).run Try.prog w = .ok (.int .i64 0) w := by kernel_rfl
theorem zero4 (w : World) : (zeroValue 4).run Try.prog w = .ok (.bool false) w := by kernel_rfl
/-- Block b is a map of at most n entries, from starts to costs. -/
def SMap (w : World) (b n : Nat) (F : Int → Int → Int → Option Int) : Prop :=
  ∃ D : DataW Unit, w.ownsMap Try.prog 101 (plainElem Try.prog 3) b n D ∧ Maps.IsMap D ∧
    ∀ x y d kl, keyOf Try.prog 101 (stV x y d) = some kl → D.atKey kl (.lit (.bool false)) = (match F x y d with | some v => .lit (.int .i64 v) | none => .lit (.bool false))
/-- Block b is a map of at most n entries, from cells to true. -/
def BMap (w : World) (b n : Nat) (B : Int → Int → Bool) : Prop :=
  ∃ D : DataW Unit, w.ownsMap Try.prog 26 (plainElem Try.prog 4) b n D ∧ Maps.IsMap D ∧
    ∀ x y kl, keyOf Try.prog 26 (xyV x y) = some kl → D.atKey kl (.lit (.bool false)) = .lit (.bool (B x y))
theorem SMap.lt {w : World} {b n : Nat} {F : Int → Int → Int → Option Int} (h : SMap w b n F) : b < w.heap.size := by obtain ⟨D, h1, _⟩ := h; exact h1.lt
theorem BMap.lt {w : World} {b n : Nat} {B : Int → Int → Bool} (h : BMap w b n B) : b < w.heap.size := by obtain ⟨D, h1, _⟩ := h; exact h1.lt
theorem SMap.keep {w w' : World} {b n : Nat} {F : Int → Int → Int → Option Int} (h : SMap w b n F) (e : w'.heap[b]? = w.heap[b]?) : SMap w' b n F := by
  obtain ⟨D, ⟨es, clock, hb, r⟩, h2⟩ := h
  exact ⟨D, ⟨es, clock, e.trans hb, r⟩, h2⟩
theorem BMap.keep {w w' : World} {b n : Nat} {B : Int → Int → Bool} (h : BMap w b n B) (e : w'.heap[b]? = w.heap[b]?) : BMap w' b n B := by
  obtain ⟨D, ⟨es, clock, hb, r⟩, h2⟩ := h
  exact ⟨D, ⟨es, clock, e.trans hb, r⟩, h2⟩
theorem SMap.more {w : World} {b n m : Nat} {F : Int → Int → Int → Option Int} (h : SMap w b n F) (hm : n ≤ m) : SMap w b m F := by
  obtain ⟨D, h1, h2⟩ := h
  exact ⟨D, h1.mono hm, h2⟩
theorem SMap.made (w : World) : SMap (w.alloc (.map #[] 0)) w.heap.size 0 (fun _ _ _ => none) := ⟨.map [], World.ownsMap_made _ _ _ _, ⟨_, rfl⟩, fun _ _ _ _ _ => rfl⟩
theorem BMap.made (w : World) : BMap (w.alloc (.map #[] 0)) w.heap.size 0 (fun _ _ => false) := ⟨.map [], World.ownsMap_made _ _ _ _, ⟨_, rfl⟩, fun _ _ _ _ => rfl⟩
/-- A look-up with ok. -/
theorem SMap.look {w : World} {b n : Nat} {F : Int → Int → Int → Option Int} (h : SMap w b n F) {x y d : Int} (hx : (Lit.int .i64 x).wf = true) (hy : (Lit.int .i64 y).wf = true) (hd : (Lit.int .i64 d).wf = true) :
    (Instr.lookup 97 (.map (some b)) (stV x y d) true).run Try.prog w = .ok (.tuple #[.int .i64 ((F x y d).getD 0), .bool (F x y d).isSome]) w := by
  obtain ⟨D, ⟨es, clock, hb, FT, _, rfl⟩, _, hF⟩ := h
  obtain ⟨kl, hk⟩ := key101 x y d hx hy hd
  have hq := hF x y d kl hk
  rcases Maps.fit_look true ked101 Try.underlying97 (zero3 w) hb FT hk with ⟨hrun, _, hat⟩ | ⟨e0, u, _, _, hrun, hRv, hat, _⟩
  · rw [hat] at hq
    cases hv : F x y d with
    | some v => rw [hv] at hq; simp at hq
    | none => simpa using hrun
  · rw [hat] at hq
    obtain ⟨a, ha, hu, _⟩ := plainElem_int_inv Try.underlying3 hRv
    rw [hu] at hq
    cases hv : F x y d with
    | none => rw [hv] at hq; simp at hq
    | some v =>
      rw [hv] at hq
      simp at hq
      rw [ha, hq] at hrun
      simpa using hrun
/-- A look-up without ok. -/
theorem SMap.look1 {w : World} {b n : Nat} {F : Int → Int → Int → Option Int} (h : SMap w b n F) {x y d : Int} (hx : (Lit.int .i64 x).wf = true) (hy : (Lit.int .i64 y).wf = true) (hd : (Lit.int .i64 d).wf = true) :
    (Instr.lookup 97 (.map (some b)) (stV x y d) false).run Try.prog w = .ok (.int .i64 ((F x y d).getD 0)) w := by
  obtain ⟨D, ⟨es, clock, hb, FT, _, rfl⟩, _, hF⟩ := h
  obtain ⟨kl, hk⟩ := key101 x y d hx hy hd
  have hq := hF x y d kl hk
  rcases Maps.fit_look false ked101 Try.underlying97 (zero3 w) hb FT hk with ⟨hrun, _, hat⟩ | ⟨e0, u, _, _, hrun, hRv, hat, _⟩
  · rw [hat] at hq
    cases hv : F x y d with
    | some v => rw [hv] at hq; simp at hq
    | none => simpa using hrun
  · rw [hat] at hq
    obtain ⟨a, ha, hu, _⟩ := plainElem_int_inv Try.underlying3 hRv
    rw [hu] at hq
    cases hv : F x y d with
    | none => rw [hv] at hq; simp at hq
    | some v =>
      rw [hv] at hq
      simp at hq
      rw [ha, hq] at hrun
      simpa using hrun
theorem bool_inv' {P : Program} {e : TypeId} (he : P.underlying e = some .bool) {v : Value} {z : DataW Unit × List MemPlace} (h : plainElem P e v = some z) : ∃ a, v = .bool a ∧ z = (.lit (.bool a), []) := by
  unfold plainElem at h
  rw [he] at h
  cases v <;> simp at h
  exact ⟨_, rfl, h.symm⟩
theorem bool_inv {v : Value} {z : DataW Unit × List MemPlace} (h : plainElem Try.prog 4 v = some z) : ∃ a, v = .bool a ∧ z = (.lit (.bool a), []) := bool_inv' Try.underlying4 h
theorem BMap.look {w : World} {b n : Nat} {B : Int → Int → Bool} (h : BMap w b n B) {x y : Int} (hx : (Lit.int .i64 x).wf = true) (hy : (Lit.int .i64 y).wf = true) :
    (Instr.lookup 66 (.map (some b)) (xyV x y) false).run Try.prog w = .ok (.bool (B x y)) w := by
  obtain ⟨D, ⟨es, clock, hb, FT, _, rfl⟩, _, hF⟩ := h
  obtain ⟨kl, hk⟩ := key26 x y hx hy
  have hq := hF x y kl hk
  rcases Maps.fit_look false ked26 Try.underlying66 (zero4 w) hb FT hk with ⟨hrun, _, hat⟩ | ⟨e0, u, _, _, hrun, hRv, hat, _⟩
  · rw [hat] at hq
    have hq' : B x y = false := by simpa using hq.symm
    rw [hq']
    exact hrun
  · rw [hat] at hq
    obtain ⟨a, ha, hu⟩ := bool_inv hRv
    rw [hu] at hq
    simp at hq
    rw [ha, hq] at hrun
    simpa using hrun
theorem SMap.put {w : World} {b n : Nat} {F : Int → Int → Int → Option Int} (h : SMap w b n F) (hn : n < maxLen) {x y d v : Int} (hx : (Lit.int .i64 x).wf = true) (hy : (Lit.int .i64 y).wf = true) (hd : (Lit.int .i64 d).wf = true) (hv : (Lit.int .i64 v).wf = true) :
    ∃ w', (Instr.mapUpdate 97 (.map (some b)) (stV x y d) (.int .i64 v)).run Try.prog w = .ok () w' ∧ SMap w' b (n + 1) (set7 F x y d v) ∧ w.grownBy w' (some b) := by
  obtain ⟨D, hown, hm, hF⟩ := h
  obtain ⟨kl, hk⟩ := key101 x y d hx hy hd
  obtain ⟨w', hrun, h1, h2⟩ := hown.update ked101 Try.underlying97 hn hk (plainElem_int Try.underlying3 hv)
  refine ⟨w', hrun, ⟨_, h1, hm.put _ _, fun x' y' d' kl' hk' => ?_⟩, h2⟩
  by_cases hs : x' = x ∧ y' = y ∧ d' = d
  · obtain ⟨rfl, rfl, rfl⟩ := hs
    rw [hk] at hk'
    cases hk'
    rw [Maps.atKey_put_same hm (ked101.key hk), set7_eq]
  · have hne : kl' ≠ kl := fun e => by
      subst e
      have := ked101.inj hk' hk
      simp at this
      exact hs ⟨this.1, this.2.1, this.2.2⟩
    rw [Maps.atKey_put_other hne, set7_ne F hs]
    exact hF x' y' d' kl' hk'
theorem BMap.put {w : World} {b n : Nat} {B : Int → Int → Bool} (h : BMap w b n B) (hn : n < maxLen) {x y : Int} (hx : (Lit.int .i64 x).wf = true) (hy : (Lit.int .i64 y).wf = true) :
    ∃ w', (Instr.mapUpdate 66 (.map (some b)) (xyV x y) (.bool true)).run Try.prog w = .ok () w' ∧ BMap w' b (n + 1) (fun p q => B p q || decide (p = x ∧ q = y)) ∧ w.grownBy w' (some b) := by
  obtain ⟨D, hown, hm, hF⟩ := h
  obtain ⟨kl, hk⟩ := key26 x y hx hy
  obtain ⟨w', hrun, h1, h2⟩ := hown.update ked26 Try.underlying66 hn hk (plainElem_bool Try.underlying4 true)
  refine ⟨w', hrun, ⟨_, h1, hm.put _ _, fun x' y' kl' hk' => ?_⟩, h2⟩
  by_cases hs : x' = x ∧ y' = y
  · obtain ⟨rfl, rfl⟩ := hs
    rw [hk] at hk'
    cases hk'
    rw [Maps.atKey_put_same hm (ked26.key hk)]
    simp
  · have hne : kl' ≠ kl := fun e => by
      subst e
      have := ked26.inj hk' hk
      simp at this
      exact hs ⟨this.1, this.2⟩
    rw [Maps.atKey_put_other hne, hF x' y' kl' hk']
    simp [hs]
end Go.Proofs.Ytkkcnhhfdicppaa
