import Derived.Test.YtilclpldfoifkaaEn3
import Derived.Test.YtilclpldfoifkaaEb
namespace Encl
/-- The points at 2^b parts of 1024 of a turn: number 0 is i, and each further one is half the angle. -/
def nxt (c : Sp) : Rc := ⟨rootS (halfS ⟨1073741824 + c.lo, 1073741824 + c.hi⟩), rootS (halfS ⟨1073741824 - c.hi, 1073741824 - c.lo⟩)⟩
def cis : Nat → Rc
  | 0 => ⟨⟨0, 0⟩, ⟨1073741824, 1073741824⟩⟩
  | k + 1 => nxt (cis k).re
/-- The point at 2^b parts. -/
def pt (b : Nat) : Rc := if b = 9 then ⟨⟨-1073741824, -1073741824⟩, ⟨0, 0⟩⟩ else cis (8 - b)
theorem cis_ok : ∀ k : Fin 9, (decide (0 ≤ (cis k.val).re.lo) && (decide ((cis k.val).re.lo ≤ (cis k.val).re.hi) && decide ((cis k.val).re.hi ≤ 1073741824))) = true := by decide +kernel
theorem cis_re {k : Nat} (h : k ≤ 8) : 0 ≤ (cis k).re.lo ∧ (cis k).re.lo ≤ (cis k).re.hi ∧ (cis k).re.hi ≤ 1073741824 := by
  have := cis_ok ⟨k, by omega⟩
  simpa using this
end Encl
namespace Go.Proofs.Ytilclpldfoifkaa
open Go.RowKit Encl

/-- A rectangle lies at b, o, and may be written. -/
def RcAt (w : World) (b o : Nat) (x : Rc) : Prop :=
  (w.cell? ⟨b, o, none⟩ = some (.int .i64 x.re.lo) ∧ w.cell? ⟨b, o + 1, none⟩ = some (.int .i64 x.re.hi) ∧ w.cell? ⟨b, o + 2, none⟩ = some (.int .i64 x.im.lo) ∧ w.cell? ⟨b, o + 3, none⟩ = some (.int .i64 x.im.hi)) ∧
  (w.frozen? ⟨b, o, none⟩ = false ∧ w.frozen? ⟨b, o + 1, none⟩ = false ∧ w.frozen? ⟨b, o + 2, none⟩ = false ∧ w.frozen? ⟨b, o + 3, none⟩ = false)
/-- A table of ten rectangles. -/
def Tab (w : World) (b : Nat) (F : Nat → Rc) : Prop := ∀ j, j < 10 → RcAt w b (j * 4) (F j)
theorem RcAt.keep {B : Nat} {w w1 : World} {b o : Nat} {x : Rc} (h : RcAt w b o x) (hb : Below B w w1) (hB : b < B) : RcAt w1 b o x := by
  obtain ⟨⟨a, c, d, e⟩, f, g, i, j⟩ := h
  have k1 := fun o => hb.cell (p := ⟨b, o, none⟩) hB
  have k2 := fun o => hb.frozen (p := ⟨b, o, none⟩) hB
  exact ⟨⟨(k1 _).trans a, (k1 _).trans c, (k1 _).trans d, (k1 _).trans e⟩, (k2 _).trans f, (k2 _).trans g, (k2 _).trans i, (k2 _).trans j⟩
theorem Tab.keep {B : Nat} {w w1 : World} {b : Nat} {F : Nat → Rc} (h : Tab w b F) (hb : Below B w w1) (hB : b < B) : Tab w1 b F := fun j hj => (h j hj).keep hb hB
theorem RcAt.set {w : World} {b o m k : Nat} {x : Rc} (h : RcAt w b o x) (hne : ¬ m = b ∨ k < o ∨ o + 3 < k) (v : Value) : RcAt (w.setCell ⟨m, k, none⟩ v) b o x := by
  obtain ⟨⟨a, c, d, e⟩, f, g, i, j⟩ := h
  have k1 : ∀ t, o ≤ t → t ≤ o + 3 → (w.setCell ⟨m, k, none⟩ v).cell? ⟨b, t, none⟩ = w.cell? ⟨b, t, none⟩ := fun t h1 h2 => World.cell?_setCell_other _ _ _ _ (by simp only [ne_eq, Addr.mk.injEq]; omega)
  have k2 : ∀ t, (w.setCell ⟨m, k, none⟩ v).frozen? ⟨b, t, none⟩ = w.frozen? ⟨b, t, none⟩ := fun t => World.frozen?_setCell _ _ _ _
  exact ⟨⟨(k1 _ (by omega) (by omega)).trans a, (k1 _ (by omega) (by omega)).trans c, (k1 _ (by omega) (by omega)).trans d, (k1 _ (by omega) (by omega)).trans e⟩, (k2 _).trans f, (k2 _).trans g, (k2 _).trans i, (k2 _).trans j⟩
/-- A rectangle is stored. -/
theorem RcAt.store {w : World} {b o : Nat} {x : Rc} (h : RcAt w b o x) (p q s t : Int) :
    RcAt ((((w.setCell ⟨b, o, none⟩ (.int .i64 p)).setCell ⟨b, o + 1, none⟩ (.int .i64 q)).setCell ⟨b, o + 2, none⟩ (.int .i64 s)).setCell ⟨b, o + 3, none⟩ (.int .i64 t)) b o ⟨⟨p, q⟩, ⟨s, t⟩⟩ := by
  obtain ⟨⟨a, c, d, e⟩, f, g, i, j⟩ := h
  refine ⟨⟨?_, ?_, ?_, ?_⟩, ?_, ?_, ?_, ?_⟩ <;> go_cell
theorem Tab.store {w : World} {b : Nat} {F : Nat → Rc} (h : Tab w b F) {i : Nat} (hi : i < 10) (p q s t : Int) :
    Tab ((((w.setCell ⟨b, i * 4, none⟩ (.int .i64 p)).setCell ⟨b, i * 4 + 1, none⟩ (.int .i64 q)).setCell ⟨b, i * 4 + 2, none⟩ (.int .i64 s)).setCell ⟨b, i * 4 + 3, none⟩ (.int .i64 t)) b (fun j => if j = i then ⟨⟨p, q⟩, ⟨s, t⟩⟩ else F j) := by
  intro j hj
  by_cases e : j = i
  · subst e
    simp only [if_true]
    exact (h j hj).store p q s t
  · simp only [e, if_false]
    exact ((((h j hj).set (by omega) _).set (by omega) _).set (by omega) _).set (by omega) _
theorem Tab.congr {w : World} {b : Nat} {F G : Nat → Rc} (h : Tab w b F) (e : ∀ j, j < 10 → F j = G j) : Tab w b G := fun j hj => by rw [← e j hj]; exact h j hj
def zero40 : Array Value := #[.int .i64 0, .int .i64 0, .int .i64 0, .int .i64 0, .int .i64 0, .int .i64 0, .int .i64 0, .int .i64 0, .int .i64 0, .int .i64 0, .int .i64 0, .int .i64 0, .int .i64 0, .int .i64 0, .int .i64 0, .int .i64 0, .int .i64 0, .int .i64 0, .int .i64 0, .int .i64 0, .int .i64 0, .int .i64 0, .int .i64 0, .int .i64 0, .int .i64 0, .int .i64 0, .int .i64 0, .int .i64 0, .int .i64 0, .int .i64 0, .int .i64 0, .int .i64 0, .int .i64 0, .int .i64 0, .int .i64 0, .int .i64 0, .int .i64 0, .int .i64 0, .int .i64 0, .int .i64 0]
theorem Tab.fresh (w : World) (t : TypeId) (n : Nat) (hn : n = w.heap.size) : Tab (w.alloc (.cells zero40 t)) n (fun _ => R0) := by
  intro j hj
  have hz : ∀ i, i < 40 → zero40[i]? = some (.int .i64 0) := fun i hi => by rw [show zero40 = Array.replicate 40 (.int .i64 0) from rfl]; simp [hi]
  have k1 := fun i (hi : i < 40) => (World.cell?_alloc_at (w := w) zero40 t n i hn).trans (hz i hi)
  have k2 := fun i => World.frozen?_alloc_at (w := w) zero40 t n i hn
  exact ⟨⟨k1 _ (by omega), k1 _ (by omega), k1 _ (by omega), k1 _ (by omega)⟩, k2 _, k2 _, k2 _, k2 _⟩
/-- The forty cells of a table. -/
def tabL (F : Nat → Rc) : Nat → List Value
  | 0 => []
  | k + 1 => tabL F k ++ [.int .i64 (F k).re.lo, .int .i64 (F k).re.hi, .int .i64 (F k).im.lo, .int .i64 (F k).im.hi]
theorem tabL_len (F : Nat → Rc) (k : Nat) : (tabL F k).length = k * 4 := by
  induction k with
  | zero => rfl
  | succ k ih => rw [tabL, List.length_append, ih]; show k * 4 + 4 = _; omega
theorem tabL_get (F : Nat → Rc) {k i t : Nat} (hi : i < k) (ht : t < 4) : (tabL F k)[i * 4 + t]? = ([.int .i64 (F i).re.lo, .int .i64 (F i).re.hi, .int .i64 (F i).im.lo, .int .i64 (F i).im.hi] : List Value)[t]? := by
  induction k with
  | zero => omega
  | succ k ih =>
    rw [tabL]
    by_cases e : i = k
    · subst e
      rw [List.getElem?_append_right (by rw [tabL_len]; omega), tabL_len]
      congr 1
      omega
    · rw [List.getElem?_append_left (by rw [tabL_len]; omega)]
      exact ih (by omega)
theorem tabL_one (F : Nat → Rc) (k : Nat) : ∀ v ∈ tabL F k, v.oneCell' = true := by
  induction k with
  | zero => simp [tabL]
  | succ k ih =>
    intro v hv
    rw [tabL, List.mem_append] at hv
    rcases hv with hv | hv
    · exact ih v hv
    · simp at hv; rcases hv with rfl | rfl | rfl | rfl <;> rfl
theorem Tab.range {w : World} {b : Nat} {F : Nat → Rc} (h : Tab w b F) : w.rangeAt b 0 (tabL F 10) := by
  intro j v hv
  have hj : j < 40 := by
    have := (List.getElem?_eq_some_iff.1 hv).1
    rw [tabL_len] at this; omega
  obtain ⟨i, t, rfl, hi, ht⟩ : ∃ i t, j = i * 4 + t ∧ i < 10 ∧ t < 4 := ⟨j / 4, j % 4, by omega, by omega, by omega⟩
  rw [tabL_get F hi ht] at hv
  obtain ⟨⟨a, c, d, e⟩, _⟩ := h i hi
  rw [Nat.zero_add]
  have ht' : t = 0 ∨ t = 1 ∨ t = 2 ∨ t = 3 := by omega
  rcases ht' with rfl | rfl | rfl | rfl <;> (simp at hv; subst hv; assumption)
theorem Tab.there {w : World} {b : Nat} {F : Nat → Rc} (h : Tab w b F) : w.there b 0 40 := by
  intro j hj
  obtain ⟨i, t, rfl, hi, ht⟩ : ∃ i t, j = i * 4 + t ∧ i < 10 ∧ t < 4 := ⟨j / 4, j % 4, by omega, by omega, by omega⟩
  obtain ⟨⟨a, c, d, e⟩, f, g, k, l⟩ := h i hi
  rw [Nat.zero_add]
  have ht' : t = 0 ∨ t = 1 ∨ t = 2 ∨ t = 3 := by omega
  rcases ht' with rfl | rfl | rfl | rfl
  · exact ⟨by simp only [Nat.add_zero]; rw [a]; rfl, f⟩
  · exact ⟨by rw [c]; rfl, g⟩
  · exact ⟨by rw [d]; rfl, k⟩
  · exact ⟨by rw [e]; rfl, l⟩
theorem Tab.of_range {w : World} {b : Nat} {F : Nat → Rc} (h : w.rangeAt b 0 (tabL F 10)) (h2 : w.there b 0 40) : Tab w b F := by
  intro j hj
  have k1 := fun t v (ht : t < 4) (hv : ([.int .i64 (F j).re.lo, .int .i64 (F j).re.hi, .int .i64 (F j).im.lo, .int .i64 (F j).im.hi] : List Value)[t]? = some v) => h (j * 4 + t) v ((tabL_get F hj ht).trans hv)
  have k2 := fun t (ht : t < 4) => (h2 (j * 4 + t) (by omega)).2
  simp only [Nat.zero_add] at k1 k2
  exact ⟨⟨k1 0 _ (by omega) rfl, k1 1 _ (by omega) rfl, k1 2 _ (by omega) rfl, k1 3 _ (by omega) rfl⟩, k2 0 (by omega), k2 1 (by omega), k2 2 (by omega), k2 3 (by omega)⟩
theorem info99 : (Try.prog.info? 99).map (·.size) = some 40 := by kernel_rfl
theorem below_setCells {B : Nat} {w w1 : World} (h : Below B w w1) {m : Nat} (hm : B ≤ m) (vs : List Value) (o : Nat) : Below B w (w1.setCells m o vs) := by
  induction vs generalizing w1 o with
  | nil => exact h
  | cons v vs ih => exact ih (h.setCell (p := ⟨m, o, none⟩) (by simpa using hm) v) (o + 1)
theorem results_cell_mid {P : Program} {fn : Func} {p : Tmp} {ty : TypeId} (h : fn.results = #[.cell p ty]) (tmps : Array Value) (w : World) (b o : Nat) (cs : List Value) (d : TypeDesc)
    (hp : tmps.getD p undef = .pointer (some ⟨b, o, none⟩)) (hc : w.rangeAt b o cs) (hu : P.underlying ty = some d) (hd : d.isRow = true) (hi : (P.info? ty).map (·.size) = some cs.length) :
    (results fn tmps).run P w = .ok (.agg cs.toArray) w := by
  have hp' : tmps[p]?.getD undef = .pointer (some ⟨b, o, none⟩) := by simpa using hp
  simp [results, h, hp', asAddr, run_loadVar_mid w b o ty cs d hc hu hd hi]

theorem infoTab (F : Nat → Rc) : (Try.prog.info? 99).map (·.size) = some (tabL F 10).length := by rw [tabL_len]; exact info99
theorem half_ok {p q : Int} (h0 : 0 ≤ p) (h1 : p ≤ q) (h2 : q ≤ 1073741824) : okS (halfS ⟨1073741824 + p, 1073741824 + q⟩) = true ∧ 0 ≤ (halfS ⟨1073741824 + p, 1073741824 + q⟩).lo ∧ okS (halfS ⟨1073741824 - q, 1073741824 - p⟩) = true ∧ 0 ≤ (halfS ⟨1073741824 - q, 1073741824 - p⟩).lo := by
  simp only [okS_iff, halfS]
  refine ⟨⟨by omega, by omega, by omega⟩, by omega, ⟨by omega, by omega, by omega⟩, by omega⟩
theorem addOne_any (p q : Int) (w : World) (h0 : 0 ≤ p) (h1 : p ≤ q) (h2 : q ≤ 1073741824) :
    Calls Try.prog 94 #[.agg #[.int .i64 1073741824, .int .i64 1073741824], .agg #[.int .i64 p, .int .i64 q]] w fun e w' => e = retS ⟨1073741824 + p, 1073741824 + q⟩ ∧ Below w.heap.size w w' := by
  refine (addSpans_any _ _ _ _ w (by rw [okS_iff]; simp only; omega) (by rw [okS_iff]; simp only; omega)).mono ?_
  rintro e w' ⟨he, hb⟩
  have : addS ⟨1073741824, 1073741824⟩ ⟨p, q⟩ = .ok ⟨1073741824 + p, 1073741824 + q⟩ := inR_ok (by rw [okS_iff]; simp only; omega)
  rw [this] at he
  exact ⟨he, hb⟩
theorem subOne_any (p q : Int) (w : World) (h0 : 0 ≤ p) (h1 : p ≤ q) (h2 : q ≤ 1073741824) :
    Calls Try.prog 95 #[.agg #[.int .i64 1073741824, .int .i64 1073741824], .agg #[.int .i64 p, .int .i64 q]] w fun e w' => e = retS ⟨1073741824 - q, 1073741824 - p⟩ ∧ Below w.heap.size w w' := by
  refine (subSpans_any _ _ _ _ w (by rw [okS_iff]; simp only; omega) (by rw [okS_iff]; simp only; omega)).mono ?_
  rintro e w' ⟨he, hb⟩
  have : subS ⟨1073741824, 1073741824⟩ ⟨p, q⟩ = .ok ⟨1073741824 - q, 1073741824 - p⟩ := by
    unfold subS addS negS
    rw [inR_ok (by rw [okS_iff]; simp only; omega)]
    congr 1
  rw [this] at he
  exact ⟨he, hb⟩
end Go.Proofs.Ytilclpldfoifkaa
