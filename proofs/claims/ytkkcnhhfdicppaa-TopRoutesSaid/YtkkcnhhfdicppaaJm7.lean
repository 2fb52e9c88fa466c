import Derived.Test.YtkkcnhhfdicppaaMq7
import Derived.WideKeyEntry
namespace Go.Proofs.Ytkkcnhhfdicppaa
open Go.RowKit Lay
open Go.Maps (Keyed)
open Go.ChangeMaps (setBlock heap_setBlock_same heap_setBlock_other)
abbrev Rdr := Value → Option (DataW Unit × List MemPlace)
/-- A reader that tells values apart; what is not there reads as the value z. -/
structure RdOk (R : Rdr) (z : Value) (zd : DataW Unit) : Prop where
  inj : ∀ {u v : Value} {d : DataW Unit} {p q : List MemPlace}, R u = some (d, p) → R v = some (d, q) → u = v
  zero : ∃ p, R z = some (zd, p)
/-- The types of a map with two numbers as its keys. -/
structure KeyOk (k e t : TypeId) (z : Value) : Prop where
  law : WideMaps.KeyLaw Try.prog k
  key : ∀ (x y : Int), (Lit.int .i64 x).wf = true → (Lit.int .i64 y).wf = true → ∃ kl, keyOf Try.prog k (xyV x y) = some kl
  typ : Try.prog.underlying t = some (.map k e)
  zer : ∀ u : World, (zeroValue e).run Try.prog u = .ok z u
/-- Block b is a map of at most n entries; at the numbers x, y it holds G x y. -/
def GM (k : TypeId) (R : Rdr) (zd : DataW Unit) (w : World) (b n : Nat) (G : Int → Int → Value) : Prop :=
  ∃ D : DataW Unit, w.ownsMap Try.prog k R b n D ∧ Maps.IsMap D ∧ ∀ x y kl, keyOf Try.prog k (xyV x y) = some kl → ∃ p, R (G x y) = some (D.atKey kl zd, p)
variable {k e t : TypeId} {R : Rdr} {z : Value} {zd : DataW Unit} {w : World} {b n : Nat} {G : Int → Int → Value}
theorem GM.lt (h : GM k R zd w b n G) : b < w.heap.size := by obtain ⟨D, h1, _⟩ := h; exact h1.lt
theorem GM.keep {w' : World} (h : GM k R zd w b n G) (e : w'.heap[b]? = w.heap[b]?) : GM k R zd w' b n G := by
  obtain ⟨D, ⟨es, clock, hb, r⟩, h2⟩ := h
  exact ⟨D, ⟨es, clock, e.trans hb, r⟩, h2⟩
theorem GM.more {m : Nat} (h : GM k R zd w b n G) (hm : n ≤ m) : GM k R zd w b m G := by
  obtain ⟨D, h1, h2⟩ := h
  exact ⟨D, h1.mono hm, h2⟩
theorem GM.made (w : World) (ok : RdOk R z zd) : GM k R zd (w.alloc (.map #[] 0)) w.heap.size 0 (fun _ _ => z) := ⟨.map [], World.ownsMap_made _ _ _ _, ⟨_, rfl⟩, fun _ _ _ _ => ok.zero⟩
theorem GM.look (h : GM k R zd w b n G) (K : KeyOk k e t z) (ok : RdOk R z zd) {x y : Int} (hx : (Lit.int .i64 x).wf = true) (hy : (Lit.int .i64 y).wf = true) :
    (Instr.lookup t (.map (some b)) (xyV x y) false).run Try.prog w = .ok (G x y) w := by
  obtain ⟨D, h1, _, h3⟩ := h
  obtain ⟨kl, hk⟩ := K.key x y hx hy
  obtain ⟨p, hp⟩ := ok.zero
  obtain ⟨v, ps, hrun, hv⟩ := h1.lookup (Keyed.of_law K.law) K.typ (K.zer w) hp hk
  obtain ⟨q, hq⟩ := h3 x y kl hk
  rw [ok.inj hv hq] at hrun
  exact hrun
/-- A store. -/
theorem GM.put (h : GM k R zd w b n G) (K : KeyOk k e t z) (hn : n < maxLen) {x y : Int} (hx : (Lit.int .i64 x).wf = true) (hy : (Lit.int .i64 y).wf = true) {v : Value} {d : DataW Unit} {p : List MemPlace} (hv : R v = some (d, p)) :
    ∃ w', (Instr.mapUpdate t (.map (some b)) (xyV x y) v).run Try.prog w = .ok () w' ∧ GM k R zd w' b (n + 1) (fun a c => if a = x ∧ c = y then v else G a c) ∧ w.grownBy w' (some b) := by
  obtain ⟨D, hown, hm, hG⟩ := h
  obtain ⟨kl, hk⟩ := K.key x y hx hy
  have Kd := Keyed.of_law K.law
  obtain ⟨w', hrun, h1, h2⟩ := hown.update Kd K.typ hn hk hv
  refine ⟨w', hrun, ⟨_, h1, hm.put _ _, fun x' y' kl' hk' => ?_⟩, h2⟩
  by_cases hs : x' = x ∧ y' = y
  · obtain ⟨rfl, rfl⟩ := hs
    rw [hk] at hk'
    cases hk'
    rw [Maps.atKey_put_same hm (Kd.key hk)]
    refine ⟨p, ?_⟩
    show R (if x' = x' ∧ y' = y' then v else G x' y') = _
    rw [if_pos ⟨rfl, rfl⟩]
    exact hv
  · have hne : kl' ≠ kl := fun e => by
      subst e
      have := Kd.inj hk' hk
      simp at this
      exact hs ⟨this.1, this.2⟩
    rw [Maps.atKey_put_other hne]
    obtain ⟨q, hq⟩ := hG x' y' kl' hk'
    refine ⟨q, ?_⟩
    show R (if x' = x ∧ y' = y then v else G x' y') = _
    rw [if_neg hs]
    exact hq
theorem setBlock_grown {o : Obj} {es : Array MapEntry} {clock : Nat} (hb : w.heap[b]? = some (.map es clock)) : w.grownBy (setBlock w b o) (some b) :=
  ⟨rfl, rfl, rfl, by simp [setBlock], fun i _ hi => heap_setBlock_other hb _ (fun e => hi (by rw [e]))⟩
/-- m[k] = f(m[k]): the entry is looked for once, and then stored to. -/
theorem GM.entry (h : GM k R zd w b n G) (K : KeyOk k e t z) (ok : RdOk R z zd) (hn : n < maxLen) {x y : Int} (hx : (Lit.int .i64 x).wf = true) (hy : (Lit.int .i64 y).wf = true) :
    ∃ (st : Nat) (w1 : World), (Instr.mapEntry t (.map (some b)) (xyV x y)).run Try.prog w = .ok (.tuple #[G x y, goInt st]) w1 ∧ GM k R zd w1 b (n + 1) G ∧ w.grownBy w1 (some b) ∧
      ∀ (w2 : World) (v : Value) (d : DataW Unit) (p : List MemPlace), w2.heap[b]? = w1.heap[b]? → R v = some (d, p) →
        ∃ w3, (Instr.entryStore t (.map (some b)) (goInt st) v).run Try.prog w2 = .ok () w3 ∧ GM k R zd w3 b (n + 1) (fun a c => if a = x ∧ c = y then v else G a c) ∧ w2.grownBy w3 (some b) := by
  have h0 := h
  have hlook := h.look K ok hx hy
  obtain ⟨D, ⟨es, clock, hb, F, hsz, hD⟩, hm, hG⟩ := h
  obtain ⟨kl, hk⟩ := K.key x y hx hy
  obtain ⟨v0, st, es1, clock1, hrun, _, hst⟩ := WideElems.entry_then_store K.law K.typ K.zer hb F hk
  have hb1 : (setBlock w b (.map es1 clock1)).heap[b]? = some (.map es1 clock1) := heap_setBlock_same hb _
  -- what the entry's block holds: the same as before
  have key : v0 = G x y ∧ GM k R zd (setBlock w b (.map es1 clock1)) b (n + 1) G := by
    rcases K.law.find w hk es.toList F.keys with ⟨h1, h2⟩ | ⟨j, e0, h1, h2, h3⟩
    · have hr : (Instr.mapEntry t (.map (some b)) (xyV x y)).run Try.prog w = .ok (.tuple #[z, goInt clock]) (setBlock w b (.map (es.push ⟨xyV x y, z, clock⟩) (clock + 1))) := by
        simp [Instr.mapEntry, run_underlying K.typ, MapKept.run_getObj_map hb, K.law.check w false hk, h1, K.zer, MapKept.run_setObj_map _ hb, Result.andThen, setBlock]
      have hu : (Instr.mapUpdate t (.map (some b)) (xyV x y) z).run Try.prog w = .ok () (setBlock w b (.map (es.push ⟨xyV x y, z, clock⟩) (clock + 1))) := by
        simp [Instr.mapUpdate, run_underlying K.typ, MapKept.run_getObj_map hb, K.law.check w false hk, h1, MapKept.run_setObj_map _ hb, Result.andThen, setBlock]
      have hl : (Instr.lookup t (.map (some b)) (xyV x y) false).run Try.prog w = .ok z w := by
        simp [Instr.lookup, run_underlying K.typ, MapKept.run_getObj_map hb, K.law.check w _ hk, h1, K.zer, Result.andThen]
      have hz : G x y = z := by rw [hlook] at hl; simpa using hl
      obtain ⟨p, hp⟩ := ok.zero
      obtain ⟨w', hu', hg', _⟩ := h0.put K hn hx hy hp
      have e1 : w' = setBlock w b (.map (es.push ⟨xyV x y, z, clock⟩) (clock + 1)) := by rw [hu] at hu'; simpa using hu'.symm
      have e2 : v0 = z ∧ setBlock w b (.map es1 clock1) = setBlock w b (.map (es.push ⟨xyV x y, z, clock⟩) (clock + 1)) := by
        rw [hrun] at hr
        simp at hr
        exact ⟨hr.1.1, hr.2⟩
      refine ⟨e2.1.trans hz.symm, ?_⟩
      rw [e2.2, ← e1]
      have hfun : (fun a c => if a = x ∧ c = y then z else G a c) = G := by
        funext a c
        by_cases hs : a = x ∧ c = y
        · rw [if_pos hs, hs.1, hs.2, hz]
        · rw [if_neg hs]
      rw [hfun] at hg'
      exact hg'
    · have hj : es[j]? = some e0 := by simpa using h2
      have hsame : es.modify j (fun e => { e with key := xyV x y }) = es := by
        apply Array.ext'
        rw [Array.toList_modify, Go.ChangeMaps.modify_eq_set _ _ _ _ h2]
        have : ({ e0 with key := xyV x y } : MapEntry) = e0 := by rw [← h3]
        rw [this]
        exact WideElems.set_self _ _ _ h2
      have hr : (Instr.mapEntry t (.map (some b)) (xyV x y)).run Try.prog w = .ok (.tuple #[e0.val, goInt e0.born]) (setBlock w b (.map es clock)) := by
        simp [Instr.mapEntry, run_underlying K.typ, MapKept.run_getObj_map hb, K.law.check w false hk, h1, hj, h3, K.law.stays w hk, hsame, MapKept.run_setObj_map _ hb, Result.andThen, setBlock]
      have hl : (Instr.lookup t (.map (some b)) (xyV x y) false).run Try.prog w = .ok e0.val w := by
        simp [Instr.lookup, run_underlying K.typ, MapKept.run_getObj_map hb, K.law.check w _ hk, h1, Result.andThen]
      have hz : G x y = e0.val := by rw [hlook] at hl; simpa using hl
      have e2 : v0 = e0.val ∧ setBlock w b (.map es1 clock1) = setBlock w b (.map es clock) := by
        rw [hrun] at hr
        simp at hr
        exact ⟨hr.1.1, hr.2⟩
      refine ⟨e2.1.trans hz.symm, ?_⟩
      rw [e2.2]
      exact (h0.keep (w' := setBlock w b (.map es clock)) ((heap_setBlock_same hb _).trans hb.symm)).more (by omega)
  rw [key.1] at hrun
  refine ⟨st, _, hrun, key.2, setBlock_grown hb, fun w2 v d p hw2 hv => ?_⟩
  obtain ⟨es', clock', hs1, hs2⟩ := hst w2 v (hw2.trans hb1)
  obtain ⟨w', hu', hg', _⟩ := h0.put K hn hx hy hv
  have e1 : w' = setBlock w b (.map es' clock') := by rw [hs2] at hu'; simpa using hu'.symm
  refine ⟨_, hs1, hg'.keep ?_, setBlock_grown (hw2.trans hb1)⟩
  rw [e1, heap_setBlock_same hb, heap_setBlock_same (hw2.trans hb1)]
/-- How the head of a slice reads. -/
def hdE : Rdr
  | .slice none 0 0 => some (.nil, [])
  | .slice (some ⟨g, 0, none⟩) n c => some (.slice [.lit (.int .i64 g), .lit (.int .i64 n), .lit (.int .i64 c)] [], [])
  | _ => none
theorem hd_ok : RdOk hdE (.slice none 0 0) .nil where
  inj := by
    intro u v d p q hu hv
    unfold hdE at hu hv
    split at hu <;> split at hv <;> simp_all
    all_goals (obtain ⟨rfl, _⟩ := hu; simp_all)
    all_goals omega
  zero := ⟨[], rfl⟩
theorem zeroU (w : World) : (zeroValue 115).run Try.prog w = .ok (.slice none 0 0) w := by kernel_rfl
theorem useK : KeyOk 26 115 113 (.slice none 0 0) where
  law := law26
  key := key26
  typ := Try.underlying113
  zer := zeroU
abbrev UMap (w : World) (b n : Nat) (G : Int → Int → Value) : Prop := GM 26 hdE .nil w b n G
/-- How a number reads. -/
def inE : Rdr
  | .int .i64 x => some (.lit (.int .i64 x), [])
  | _ => none
theorem in_ok : RdOk inE (.int .i64 0) (.lit (.int .i64 0)) where
  inj := by
    intro u v d p q hu hv
    unfold inE at hu hv
    split at hu <;> split at hv <;> simp_all
    all_goals (obtain ⟨rfl, _⟩ := hu; simp_all)
  zero := ⟨[], rfl⟩
theorem c93 : Try.prog.cellsOf 93 = 2 := by kernel_rfl
theorem kl_a2 (d : Nat) (x y : Int) (hx : (Lit.int .i64 x).wf = true) (hy : (Lit.int .i64 y).wf = true) : Try.prog.keyLits (d + 2) 93 [.int .i64 x, .int .i64 y] = some [.int .i64 x, .int .i64 y] := by
  unfold Program.keyLits
  rw [Try.underlying93]
  simp [c93, c3]
  exact ⟨[[.int .i64 x], [.int .i64 y]], by simp [List.range, List.range.loop, kl_int, hx, hy], rfl⟩
theorem law93 : WideMaps.KeyLaw Try.prog 93 := deep_law_laid laid0 (m := 2) (by omega) (of_decide_eq_true (by kernel_rfl)) (by kernel_rfl) (by rw [Try.underlying93])
theorem key93 (x y : Int) (hx : (Lit.int .i64 x).wf = true) (hy : (Lit.int .i64 y).wf = true) : ∃ kl, keyOf Try.prog 93 (.agg #[.int .i64 x, .int .i64 y]) = some kl := by
  have h1 : Try.prog.keyType 93 = true := by kernel_rfl
  have h2 : (Value.agg #[.int .i64 x, .int .i64 y]).formed Try.prog 93 = true := by simp [Value.formed, Try.underlying93, c93]
  refine ⟨.string (keyBytes [.int .i64 x, .int .i64 y]), ?_⟩
  unfold keyOf
  simp [Try.underlying93, h1, h2, Value.cells, kl_a2 _ x y hx hy]
theorem timK : KeyOk 93 3 96 (.int .i64 0) where
  law := law93
  key := key93
  typ := Try.underlying96
  zer := zero3
abbrev TMap (w : World) (b n : Nat) (G : Int → Int → Value) : Prop := GM 93 inE (.lit (.int .i64 0)) w b n G
end Go.Proofs.Ytkkcnhhfdicppaa
