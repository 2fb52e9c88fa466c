import Derived.Test.YtfilofnkiocbeaaRows
import Derived.WalkKit
import Derived.ProofKit
import Derived.OpenShut
import Derived.Lib.SmallJoins
import Derived.ChangeSlices
import Derived.Deep.Slices
import Derived.Deep.Grids
import Derived.Test.YtfilofnkiocbeaaBc8
namespace Go.Proofs.Ytfilofnkiocbeaa
open Go.ChangeShapes Go.WideShapes Go.ChangeAt Go.RowKit Go.Joins

theorem own : ownKnob Try.prog.godebug = none := by kernel_rfl
theorem laidOut : laidOutB Try.prog = true := by kernel_rfl

theorem trodAll_below {H : Type} {enc : TypeId × Value → H} {P : Program} (hl : laidOutB P = true) {W W' : World} (hb : Below W.heap.size W W') :
    ∀ {ts : List TypeId} {vs : List Value} {ds : List (DataW H)} {ps : List MemPlace}, (∀ t ∈ ts, P.readableRec t = true ∧ t < P.types.size) → (∀ x ∈ ps, x.block < W.heap.size) →
      DataW.TrodAll enc P W 0 (fun _ => true) true ts vs ds ps → DataW.TrodAll enc P W' 0 (fun b => decide (b < W.heap.size)) true ts vs ds ps := by
  intro ts
  induction ts with
  | nil =>
    intro vs ds ps _ _ h
    cases vs <;> cases ds <;> simp_all [DataW.TrodAll]
  | cons t ts ih =>
    intro vs ds ps ht hp h
    match vs, ds, h with
    | v :: vs, d :: ds, h =>
      obtain ⟨p, q, h1, h2, rfl⟩ := h
      exact ⟨p, q, Below.trod hl (ht t (by simp)).1 (ht t (by simp)).2 h1 hb (fun x hx => hp x (by simp [hx])), ih (fun u hu => ht u (by simp [hu])) (fun x hx => hp x (by simp [hx])) h2, rfl⟩

set_option maxRecDepth 100000 in
/-- THE ROW OF A LAW, out of the walk: it returns true and makes new memory alone. -/
theorem law_lifted {H : Type} {enc : TypeId × Value → H} {os : Os} (started : os.Started) {F : FuncId} {fF : Func} {s : ChangeSpec} (hfn : Try.prog.funcs[F]? = some fF) (noInit : Try.prog.inits.idxOf? F = none)
    (witness : ∃ (w : World) (tape : Tape) (i : Input), w.os = os ∧ (w.forCall tape i).Shaped Try.checked.prog ∧ i.vars = [] ∧ Input.okWide Try.checked.prog (w.forCall tape i) .any w.heap.size F i ∧
      s.pre6 enc Try.checked.prog fF [] false (w.forCall tape i).memory i.args ∧ ({} : Assume).holds Try.checked.prog (lone (Frame.enter Try.checked.prog F i.args .normal) [] (w.forCall tape i)))
    (hv : s.vars = []) (hres : fF.resultTypes = #[4]) (hts : ∀ t ∈ fF.params.toList, Try.prog.readableRec t = true ∧ t < Try.prog.types.size)
    (hs : ∀ ds : List (DataW H), ds.length = fF.params.toList.length → s.fn H ds = { results := [.lit (.bool true)], args := ds })
    (walk : ∀ (W : World) (base : Nat) (args : List Value) (ds : List (DataW H)) (ps : List MemPlace), DataW.TrodAll enc Try.prog W 0 (fun _ => true) true fF.params.toList args ds ps →
      (∀ (j : Nat) t v, fF.params[j]? = some t → args[j]? = some v → Value.okWide Try.prog W .any base t v) → Calls Try.prog F args.toArray W fun e w' => e = .returned (.bool true) ∧ Below W.heap.size W w') :
    ReturnsInHanded {} Try.checked os F .any (s.pre6 enc Try.checked.prog fF [] false) (s.post enc Try.checked.prog fF false true false false) := by
  refine returnsInHanded_of_change (C := Try.checked) own started noInit hfn witness ?_
  intro W base args ds gs before hval0 hW _ _
  have hval : ∀ (j : Nat) t v, fF.params[j]? = some t → args.toList[j]? = some v → Value.okWide Try.prog W .any base t v := fun j t v h1 h2 => hval0 j t v h1 (by simpa using h2)
  have hW' := hW
  obtain ⟨p, q, hA0, hV, rfl, _, _⟩ := hW
  have hA : DataW.TrodAll enc Try.prog W 0 (fun _ => true) true fF.params.toList args.toList ds p := hA0
  rw [hv] at hV
  obtain ⟨rfl, rfl⟩ := trodVars_none hV
  have hlen : ∀ {ts : List TypeId} {vs : List Value} {ds : List (DataW H)} {ps : List MemPlace}, DataW.TrodAll enc Try.prog W 0 (fun _ => true) true ts vs ds ps → ds.length = ts.length := by
    intro ts
    induction ts with
    | nil => intro vs ds ps h; cases vs <;> cases ds <;> simp_all [DataW.TrodAll]
    | cons t ts ih =>
      intro vs ds ps h
      match vs, ds, h with
      | v :: vs, d :: ds, ⟨p, q, _, h2, _⟩ => simp [ih h2]
  have hfn := hs ds (hlen hA)
  have hlt : ∀ x ∈ p, x.block < W.heap.size := fun x hx => by simpa using hW'.lt x (by simpa using hx)
  have hcall := walk W base args.toList ds p hA hval
  rw [Array.toArray_toList] at hcall
  refine Calls.mono hcall ?_
  rintro e W' ⟨rfl, hb⟩
  refine ⟨_, rfl, ds, [], p ++ [], [], p, [], hW', ?_, ?_, ?_, hb.frame _, fun h => by cases h⟩
  · show DataW.TrodAll enc Try.prog W' _ _ _ fF.resultTypes.toList ((Value.bool true).resultList fF.resultTypes.size) (s.fn H (ds ++ [])).results []
    rw [List.append_nil, hfn, hres]
    exact trodAll_mk1 (shut_bool Try.underlying4 _)
  · show DataW.TrodAll enc Try.prog W' _ _ _ fF.params.toList args.toList (s.fn H (ds ++ [])).args p
    rw [List.append_nil, hfn]
    exact trodAll_below laidOut hb hts hlt hA
  · show DataW.TrodVars enc Try.prog W' _ s.vars (s.fn H (ds ++ [])).vars []
    rw [List.append_nil, hfn, hv]
    rfl

theorem okWide_array {P : Program} {t e : TypeId} {n base : Nat} {w : World} {r : Reach} {v : Value} (ht : P.underlying t = some (.array n e)) (h : Value.okWide P w r base t v) : ∃ cs, v = .agg cs ∧ cs.size = P.cellsOf t := by
  simp only [Value.okWide, ht] at h
  obtain ⟨cs, h1, h2, _⟩ := h
  exact ⟨cs, h1, h2⟩
theorem array5 {α : Type} {cs : Array α} (h : cs.size = 5) : ∃ c0 c1 c2 c3 c4, cs = #[c0, c1, c2, c3, c4] := by
  obtain ⟨l⟩ := cs
  match l, h with
  | [c0, c1, c2, c3, c4], _ => exact ⟨c0, c1, c2, c3, c4, rfl⟩
def rng (n : Int) : Prop := -9223372036854775808 ≤ n ∧ n ≤ 9223372036854775807
theorem rng_of {n : Int} (h : (Lit.int .i64 n).wf = true) : rng n := by
  have := bounds_i64 h
  unfold rng; omega
set_option maxRecDepth 100000 in
theorem open_i64 {H : Type} {enc : TypeId × Value → H} {w : World} {r : Reach} {base b0 : Nat} {spare : Nat → Bool} {held : Bool} {v : Value} {d : DataW H} {p : List MemPlace}
    (hv : Value.okWide Try.prog w r b0 3 v) (h : DataW.Trod enc Try.prog w base spare held 3 v d p) : ∃ n : Int, v = .int .i64 n ∧ rng n := by
  obtain ⟨x, rfl, _, _, wx⟩ := open_int Try.underlying3 hv h
  exact ⟨x, rfl, rng_of wx⟩
theorem ta_cons {H : Type} {enc : TypeId × Value → H} {P : Program} {w : World} {base : Nat} {sp : Nat → Bool} {held : Bool} {t : TypeId} {ts : List TypeId} {vs : List Value} {ds : List (DataW H)} {ps : List MemPlace}
    (h : DataW.TrodAll enc P w base sp held (t :: ts) vs ds ps) : ∃ v vs' d p q ds', vs = v :: vs' ∧ DataW.Trod enc P w base sp held t v d p ∧ DataW.TrodAll enc P w base sp held ts vs' ds' q := by
  cases vs with
  | nil => cases ds <;> simp [DataW.TrodAll] at h
  | cons v vs =>
    cases ds with
    | nil => simp [DataW.TrodAll] at h
    | cons d ds =>
      obtain ⟨p, q, h1, h2, _⟩ := h
      exact ⟨v, vs, d, p, q, ds, rfl, h1, h2⟩
theorem ta_nil {H : Type} {enc : TypeId × Value → H} {P : Program} {w : World} {base : Nat} {sp : Nat → Bool} {held : Bool} {vs : List Value} {ds : List (DataW H)} {ps : List MemPlace}
    (h : DataW.TrodAll enc P w base sp held [] vs ds ps) : vs = [] := by
  cases vs with
  | nil => rfl
  | cons v vs => cases ds <;> simp [DataW.TrodAll] at h
theorem len_one {α : Type} {l : List α} (h : l.length = 1) : ∃ a, l = [a] := by
  match l, h with
  | [a], _ => exact ⟨a, rfl⟩
theorem len_two {α : Type} {l : List α} (h : l.length = 2) : ∃ a b, l = [a, b] := by
  match l, h with
  | [a, b], _ => exact ⟨a, b, rfl⟩
theorem len_three {α : Type} {l : List α} (h : l.length = 3) : ∃ a b c, l = [a, b, c] := by
  match l, h with
  | [a, b, c], _ => exact ⟨a, b, c, rfl⟩
theorem list2 {α : Type} {l : List α} (h : l.length = 2) : ∃ a b, l = [a, b] := by
  match l, h with
  | [a, b], _ => exact ⟨a, b, rfl⟩
theorem okWide_str {P : Program} {t : TypeId} {fs : Array Field} {base : Nat} {w : World} {r : Reach} {v : Value} (ht : P.underlying t = some (.struct fs)) (h : Value.okWide P w r base t v) : ∃ cs, v = .agg cs ∧ cs.size = P.cellsOf t := by
  simp only [Value.okWide, ht] at h
  obtain ⟨cs, h1, h2, _⟩ := h
  exact ⟨cs, h1, h2⟩
theorem arr1 {α : Type} {cs : Array α} (h : cs.size = 1) : ∃ c0, cs = #[c0] := by
  obtain ⟨l⟩ := cs
  match l, h with
  | [c0], _ => exact ⟨c0, rfl⟩
theorem arr2 {α : Type} {cs : Array α} (h : cs.size = 2) : ∃ c0 c1, cs = #[c0, c1] := by
  obtain ⟨l⟩ := cs
  match l, h with
  | [c0, c1], _ => exact ⟨c0, c1, rfl⟩
theorem arr3 {α : Type} {cs : Array α} (h : cs.size = 3) : ∃ c0 c1 c2, cs = #[c0, c1, c2] := by
  obtain ⟨l⟩ := cs
  match l, h with
  | [c0, c1, c2], _ => exact ⟨c0, c1, c2, rfl⟩
open Go Ben
set_option maxRecDepth 100000 in
theorem trod_is {H : Type} {enc : TypeId × Value → H} {w : World} {base fuel : Nat} {spare : Nat → Bool} {held : Bool} {v : Value} {x : DataW H × List MemPlace}
    (hf : DataW.trod enc Try.prog w base spare held fuel 28 [v] = some x) :
    ∃ (ao : Option Addr) (n cap : Nat) (f : Nat → Int), v = .slice ao n cap ∧ (n ≤ cap ∧ cap ≤ 9223372036854775807) ∧ Ints w ao n f := by
  rcases open_ints (k := .i64) Try.underlying28 Try.underlying3 (by kernel_rfl) hf with ⟨h0, _⟩ | ⟨a, len, cap, zs, h0, _, hlc, hcm, hzl, _, hc, _⟩
  · simp only [List.cons.injEq, and_true] at h0
    exact ⟨none, 0, 0, fun _ => 0, h0, by omega, fun h => absurd h (by omega)⟩
  · simp only [List.cons.injEq, and_true] at h0
    have hm : len ≤ cap ∧ cap ≤ 9223372036854775807 := by unfold maxLen at hcm; omega
    have hz : len ≤ zs.length := by rw [hzl]; split <;> omega
    refine ⟨some a, len, cap, fun i => zs.getD i 0, h0, hm, fun hn => ?_⟩
    obtain ⟨b, o, spot⟩ := a
    have hs : spot = none := by simpa [Addr.add] using World.cell?_spot (hc 0 (by omega))
    subst hs
    exact ⟨b, o, rfl, fun i hi => by have := hc i (by omega); rwa [Addr.add_lit] at this⟩
/-- An argument []int as data. -/
theorem open_is {H : Type} {enc : TypeId × Value → H} {w : World} {base : Nat} {spare : Nat → Bool} {held : Bool} {v : Value} {d : DataW H} {p : List MemPlace}
    (h : DataW.Trod enc Try.prog w base spare held 28 v d p) (hv : ∃ ao n cap, v = .slice ao n cap) :
    ∃ (ao : Option Addr) (n cap : Nat) (f : Nat → Int), v = .slice ao n cap ∧ (n ≤ cap ∧ cap ≤ 9223372036854775807) ∧ Ints w ao n f := by
  obtain ⟨_, _, _, rfl⟩ := hv
  obtain ⟨fuel, hf⟩ := h
  exact trod_is (show DataW.trod enc Try.prog w base spare held fuel 28 [_] = some (d, p) from hf)
set_option maxRecDepth 100000 in
theorem slice_wide {w : World} {r : Reach} {b0 : Nat} {v : Value} (hv : Value.okWide Try.prog w r b0 28 v) : ∃ ao n cap, v = .slice ao n cap := by
  obtain ⟨ao, l0, c0, rfl⟩ := Go.WideShapes.okWide_slice Try.underlying28 hv
  exact ⟨_, _, _, rfl⟩
set_option maxRecDepth 100000 in
theorem trod_bs {H : Type} {enc : TypeId × Value → H} {w : World} {base fuel : Nat} {spare : Nat → Bool} {held : Bool} {v : Value} {x : DataW H × List MemPlace}
    (hf : DataW.trod enc Try.prog w base spare held fuel 27 [v] = some x) :
    ∃ (ao : Option Addr) (n cap : Nat) (f : Nat → Bool), v = .slice ao n cap ∧ (n ≤ cap ∧ cap ≤ 9223372036854775807) ∧ Bools w ao n f := by
  rcases Go.Deep.open_slice1 Try.underlying27 (by kernel_rfl) hf with ⟨h0, _⟩ | ⟨a, len, cap, m, n, V, D, Pl, h0, _, hl, hm, hmm, _, hx⟩
  · simp only [List.cons.injEq, and_true] at h0
    exact ⟨none, 0, 0, fun _ => false, h0, by omega, fun h => absurd h (by omega)⟩
  · simp only [List.cons.injEq, and_true] at h0
    have hm' : len ≤ cap ∧ cap ≤ 9223372036854775807 := by unfold maxLen at hm; omega
    have hlm : len ≤ m := by rw [hmm]; split <;> omega
    have hcell : ∀ i, i < len → ∃ z : Bool, w.cell? (a.add i) = some (.bool z) := by
      intro i hi
      obtain ⟨h1, h2⟩ := hx i (by omega)
      obtain ⟨z, h3, _⟩ := DataW.trod_bool Try.underlying4 h2
      simp only [List.cons.injEq, and_true] at h3
      exact ⟨z, by rw [h1, h3]⟩
    obtain ⟨f, hf⟩ := Go.Deep.choose_lt hcell
    refine ⟨some a, len, cap, f, h0, hm', fun hn => ?_⟩
    obtain ⟨b, o, spot⟩ := a
    have hs : spot = none := by simpa [Addr.add] using World.cell?_spot (hf 0 (by omega))
    subst hs
    exact ⟨b, o, rfl, fun i hi => by have := hf i hi; rwa [Addr.add_lit] at this⟩
set_option maxRecDepth 100000 in
theorem bslice_wide {w : World} {r : Reach} {b0 : Nat} {v : Value} (hv : Value.okWide Try.prog w r b0 27 v) : ∃ ao n cap, v = .slice ao n cap := by
  obtain ⟨ao, l0, c0, rfl⟩ := Go.WideShapes.okWide_slice Try.underlying27 hv
  exact ⟨_, _, _, rfl⟩
/-- An argument []bool as data. -/
theorem open_bs {H : Type} {enc : TypeId × Value → H} {w : World} {base : Nat} {spare : Nat → Bool} {held : Bool} {v : Value} {d : DataW H} {p : List MemPlace}
    (h : DataW.Trod enc Try.prog w base spare held 27 v d p) (hv : ∃ ao n cap, v = .slice ao n cap) :
    ∃ (ao : Option Addr) (n cap : Nat) (f : Nat → Bool), v = .slice ao n cap ∧ (n ≤ cap ∧ cap ≤ 9223372036854775807) ∧ Bools w ao n f := by
  obtain ⟨_, _, _, rfl⟩ := hv
  obtain ⟨fuel, hf⟩ := h
  exact trod_bs (show DataW.trod enc Try.prog w base spare held fuel 27 [_] = some (d, p) from hf)
set_option maxRecDepth 100000 in
theorem open_u8 {H : Type} {enc : TypeId × Value → H} {w : World} {r : Reach} {base b0 : Nat} {spare : Nat → Bool} {held : Bool} {v : Value} {d : DataW H} {p : List MemPlace}
    (hv : Value.okWide Try.prog w r b0 5 v) (h : DataW.Trod enc Try.prog w base spare held 5 v d p) : ∃ n : Int, v = .int .u8 n ∧ 0 ≤ n ∧ n ≤ 255 := by
  obtain ⟨x, rfl, _, _, wx⟩ := open_int Try.underlying5 hv h
  exact ⟨x, rfl, bounds_u8 wx⟩
end Go.Proofs.Ytfilofnkiocbeaa
