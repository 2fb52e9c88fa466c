import Derived.Test.YtdhlikedjephmaaRows
import Derived.WalkKit
import Derived.ProofKit
import Derived.OpenShut
import Derived.Lib.SmallJoins
import Derived.ChangeSlices
import Derived.Deep.Slices
import Derived.Test.YtdhlikedjephmaaKn
namespace Go.Proofs.Ytdhlikedjephmaa
open Go.ChangeShapes Go.WideShapes Go.ChangeAt Go.RowKit Go.Joins

theorem own : ownKnob Try.prog.godebug = none := by kernel_rfl
theorem laidOut : laidOutB Try.prog = true := by kernel_rfl

theorem trodAll_below {H : Type} {enc : TypeId × Value → H} {P : Program} (hl : laidOutB P = true) {W W' : World} (hb : Below W.heap.size W W') :
    ∀ {ts : List TypeId} {vs : List Value} {ds : List (DataW H)} {ps : List MemPlace}, (∀ t ∈ ts, P.readableRec t = true ∧ t < P.types.size) → (∀ x ∈ ps, x.block < W.heap.size) →
      DataW.TrodAll enc P W 0 (fun _ => true) true ts vs ds ps → DataW.TrodAll enc P W' 0 (fun b => decide (b < W.heap.size)) true ts vs ds ps := by
  intro ts
  induction ts with
  | nil =>
    intro vs ds ps _ _ h
    cases vs <;> cases ds <;> simp_all [DataW.TrodAll]
  | cons t ts ih =>
    intro vs ds ps ht hp h
    match vs, ds, h with
    | v :: vs, d :: ds, h =>
      obtain ⟨p, q, h1, h2, rfl⟩ := h
      exact ⟨p, q, Below.trod hl (ht t (by simp)).1 (ht t (by simp)).2 h1 hb (fun x hx => hp x (by simp [hx])), ih (fun u hu => ht u (by simp [hu])) (fun x hx => hp x (by simp [hx])) h2, rfl⟩

set_option maxRecDepth 100000 in
/-- THE ROW OF A LAW, out of the walk: it returns true and makes new memory alone. -/
theorem law_lifted {H : Type} {enc : TypeId × Value → H} {os : Os} (started : os.Started) {F : FuncId} {fF : Func} {s : ChangeSpec} (hfn : Try.prog.funcs[F]? = some fF) (noInit : Try.prog.inits.idxOf? F = none)
    (witness : ∃ (w : World) (tape : Tape) (i : Input), w.os = os ∧ (w.forCall tape i).Shaped Try.checked.prog ∧ i.vars = [] ∧ Input.okWide Try.checked.prog (w.forCall tape i) .any w.heap.size F i ∧
      s.pre6 enc Try.checked.prog fF [] false (w.forCall tape i).memory i.args ∧ ({} : Assume).holds Try.checked.prog (lone (Frame.enter Try.checked.prog F i.args .normal) [] (w.forCall tape i)))
    (hv : s.vars = []) (hres : fF.resultTypes = #[4]) (hts : ∀ t ∈ fF.params.toList, Try.prog.readableRec t = true ∧ t < Try.prog.types.size)
    (hs : ∀ ds : List (DataW H), ds.length = fF.params.toList.length → s.fn H ds = { results := [.lit (.bool true)], args := ds })
    (walk : ∀ (W : World) (base : Nat) (args : List Value) (ds : List (DataW H)) (ps : List MemPlace), DataW.TrodAll enc Try.prog W 0 (fun _ => true) true fF.params.toList args ds ps →
      (∀ (j : Nat) t v, fF.params[j]? = some t → args[j]? = some v → Value.okWide Try.prog W .any base t v) → Calls Try.prog F args.toArray W fun e w' => e = .returned (.bool true) ∧ Below W.heap.size W w') :
    ReturnsInHanded {} Try.checked os F .any (s.pre6 enc Try.checked.prog fF [] false) (s.post enc Try.checked.prog fF false true false false) := by
  refine returnsInHanded_of_change (C := Try.checked) own started noInit hfn witness ?_
  intro W base args ds gs before hval0 hW _ _
  have hval : ∀ (j : Nat) t v, fF.params[j]? = some t → args.toList[j]? = some v → Value.okWide Try.prog W .any base t v := fun j t v h1 h2 => hval0 j t v h1 (by simpa using h2)
  have hW' := hW
  obtain ⟨p, q, hA0, hV, rfl, _, _⟩ := hW
  have hA : DataW.TrodAll enc Try.prog W 0 (fun _ => true) true fF.params.toList args.toList ds p := hA0
  rw [hv] at hV
  obtain ⟨rfl, rfl⟩ := trodVars_none hV
  have hlen : ∀ {ts : List TypeId} {vs : List Value} {ds : List (DataW H)} {ps : List MemPlace}, DataW.TrodAll enc Try.prog W 0 (fun _ => true) true ts vs ds ps → ds.length = ts.length := by
    intro ts
    induction ts with
    | nil => intro vs ds ps h; cases vs <;> cases ds <;> simp_all [DataW.TrodAll]
    | cons t ts ih =>
      intro vs ds ps h
      match vs, ds, h with
      | v :: vs, d :: ds, ⟨p, q, _, h2, _⟩ => simp [ih h2]
  have hfn := hs ds (hlen hA)
  have hlt : ∀ x ∈ p, x.block < W.heap.size := fun x hx => by simpa using hW'.lt x (by simpa using hx)
  have hcall := walk W base args.toList ds p hA hval
  rw [Array.toArray_toList] at hcall
  refine Calls.mono hcall ?_
  rintro e W' ⟨rfl, hb⟩
  refine ⟨_, rfl, ds, [], p ++ [], [], p, [], hW', ?_, ?_, ?_, hb.frame _, fun h => by cases h⟩
  · show DataW.TrodAll enc Try.prog W' _ _ _ fF.resultTypes.toList ((Value.bool true).resultList fF.resultTypes.size) (s.fn H (ds ++ [])).results []
    rw [List.append_nil, hfn, hres]
    exact trodAll_mk1 (shut_bool Try.underlying4 _)
  · show DataW.TrodAll enc Try.prog W' _ _ _ fF.params.toList args.toList (s.fn H (ds ++ [])).args p
    rw [List.append_nil, hfn]
    exact trodAll_below laidOut hb hts hlt hA
  · show DataW.TrodVars enc Try.prog W' _ s.vars (s.fn H (ds ++ [])).vars []
    rw [List.append_nil, hfn, hv]
    rfl

theorem okWide_array {P : Program} {t e : TypeId} {n base : Nat} {w : World} {r : Reach} {v : Value} (ht : P.underlying t = some (.array n e)) (h : Value.okWide P w r base t v) : ∃ cs, v = .agg cs ∧ cs.size = P.cellsOf t := by
  simp only [Value.okWide, ht] at h
  obtain ⟨cs, h1, h2, _⟩ := h
  exact ⟨cs, h1, h2⟩
theorem array5 {α : Type} {cs : Array α} (h : cs.size = 5) : ∃ c0 c1 c2 c3 c4, cs = #[c0, c1, c2, c3, c4] := by
  obtain ⟨l⟩ := cs
  match l, h with
  | [c0, c1, c2, c3, c4], _ => exact ⟨c0, c1, c2, c3, c4, rfl⟩
def rng (n : Int) : Prop := -9223372036854775808 ≤ n ∧ n ≤ 9223372036854775807
theorem rng_of {n : Int} (h : (Lit.int .i64 n).wf = true) : rng n := by
  have := bounds_i64 h
  unfold rng; omega
set_option maxRecDepth 100000 in
theorem open_i64 {H : Type} {enc : TypeId × Value → H} {w : World} {r : Reach} {base b0 : Nat} {spare : Nat → Bool} {held : Bool} {v : Value} {d : DataW H} {p : List MemPlace}
    (hv : Value.okWide Try.prog w r b0 3 v) (h : DataW.Trod enc Try.prog w base spare held 3 v d p) : ∃ n : Int, v = .int .i64 n ∧ rng n := by
  obtain ⟨x, rfl, _, _, wx⟩ := open_int Try.underlying3 hv h
  exact ⟨x, rfl, rng_of wx⟩
theorem ta_cons {H : Type} {enc : TypeId × Value → H} {P : Program} {w : World} {base : Nat} {sp : Nat → Bool} {held : Bool} {t : TypeId} {ts : List TypeId} {vs : List Value} {ds : List (DataW H)} {ps : List MemPlace}
    (h : DataW.TrodAll enc P w base sp held (t :: ts) vs ds ps) : ∃ v vs' d p q ds', vs = v :: vs' ∧ DataW.Trod enc P w base sp held t v d p ∧ DataW.TrodAll enc P w base sp held ts vs' ds' q := by
  cases vs with
  | nil => cases ds <;> simp [DataW.TrodAll] at h
  | cons v vs =>
    cases ds with
    | nil => simp [DataW.TrodAll] at h
    | cons d ds =>
      obtain ⟨p, q, h1, h2, _⟩ := h
      exact ⟨v, vs, d, p, q, ds, rfl, h1, h2⟩
theorem ta_nil {H : Type} {enc : TypeId × Value → H} {P : Program} {w : World} {base : Nat} {sp : Nat → Bool} {held : Bool} {vs : List Value} {ds : List (DataW H)} {ps : List MemPlace}
    (h : DataW.TrodAll enc P w base sp held [] vs ds ps) : vs = [] := by
  cases vs with
  | nil => rfl
  | cons v vs => cases ds <;> simp [DataW.TrodAll] at h
theorem len_one {α : Type} {l : List α} (h : l.length = 1) : ∃ a, l = [a] := by
  match l, h with
  | [a], _ => exact ⟨a, rfl⟩
theorem len_two {α : Type} {l : List α} (h : l.length = 2) : ∃ a b, l = [a, b] := by
  match l, h with
  | [a, b], _ => exact ⟨a, b, rfl⟩
theorem len_three {α : Type} {l : List α} (h : l.length = 3) : ∃ a b c, l = [a, b, c] := by
  match l, h with
  | [a, b, c], _ => exact ⟨a, b, c, rfl⟩
theorem list2 {α : Type} {l : List α} (h : l.length = 2) : ∃ a b, l = [a, b] := by
  match l, h with
  | [a, b], _ => exact ⟨a, b, rfl⟩
theorem okWide_str {P : Program} {t : TypeId} {fs : Array Field} {base : Nat} {w : World} {r : Reach} {v : Value} (ht : P.underlying t = some (.struct fs)) (h : Value.okWide P w r base t v) : ∃ cs, v = .agg cs ∧ cs.size = P.cellsOf t := by
  simp only [Value.okWide, ht] at h
  obtain ⟨cs, h1, h2, _⟩ := h
  exact ⟨cs, h1, h2⟩
theorem arr1 {α : Type} {cs : Array α} (h : cs.size = 1) : ∃ c0, cs = #[c0] := by
  obtain ⟨l⟩ := cs
  match l, h with
  | [c0], _ => exact ⟨c0, rfl⟩
theorem arr2 {α : Type} {cs : Array α} (h : cs.size = 2) : ∃ c0 c1, cs = #[c0, c1] := by
  obtain ⟨l⟩ := cs
  match l, h with
  | [c0, c1], _ => exact ⟨c0, c1, rfl⟩
theorem arr3 {α : Type} {cs : Array α} (h : cs.size = 3) : ∃ c0 c1 c2, cs = #[c0, c1, c2] := by
  obtain ⟨l⟩ := cs
  match l, h with
  | [c0, c1, c2], _ => exact ⟨c0, c1, c2, rfl⟩
open Go Heat
theorem trod_is {H : Type} {enc : TypeId × Value → H} {w : World} {base fuel : Nat} {spare : Nat → Bool} {held : Bool} {v : Value} {x : DataW H × List MemPlace}
    (hf : DataW.trod enc Try.prog w base spare held fuel 24 [v] = some x) :
    ∃ (ao : Option Addr) (n cap : Nat) (f : Nat → Int), v = .slice ao n cap ∧ n ≤ 9223372036854775807 ∧ Ints w ao n f := by
  rcases open_ints (k := .i64) Try.underlying24 Try.underlying3 (by kernel_rfl) hf with ⟨h0, _⟩ | ⟨a, len, cap, zs, h0, _, hlc, hcm, hzl, _, hc, _⟩
  · simp only [List.cons.injEq, and_true] at h0
    exact ⟨none, 0, 0, fun _ => 0, h0, by omega, fun h => absurd h (by omega)⟩
  · simp only [List.cons.injEq, and_true] at h0
    have hm : len ≤ 9223372036854775807 := by unfold maxLen at hcm; omega
    have hz : len ≤ zs.length := by rw [hzl]; split <;> omega
    refine ⟨some a, len, cap, fun i => zs.getD i 0, h0, hm, fun hn => ?_⟩
    obtain ⟨b, o, spot⟩ := a
    have hs : spot = none := by simpa [Addr.add] using World.cell?_spot (hc 0 (by omega))
    subst hs
    exact ⟨b, o, rfl, fun i hi => by have := hc i (by omega); rwa [Addr.add_lit] at this⟩
/-- An argument []int as data. -/
theorem open_is {H : Type} {enc : TypeId × Value → H} {w : World} {base : Nat} {spare : Nat → Bool} {held : Bool} {v : Value} {d : DataW H} {p : List MemPlace}
    (h : DataW.Trod enc Try.prog w base spare held 24 v d p) (hv : ∃ ao n cap, v = .slice ao n cap) :
    ∃ (ao : Option Addr) (n cap : Nat) (f : Nat → Int), v = .slice ao n cap ∧ n ≤ 9223372036854775807 ∧ Ints w ao n f := by
  obtain ⟨_, _, _, rfl⟩ := hv
  obtain ⟨fuel, hf⟩ := h
  exact trod_is (show DataW.trod enc Try.prog w base spare held fuel 24 [_] = some (d, p) from hf)
theorem slice_wide {w : World} {r : Reach} {b0 : Nat} {v : Value} (hv : Value.okWide Try.prog w r b0 24 v) : ∃ ao n cap, v = .slice ao n cap := by
  obtain ⟨ao, l0, c0, rfl⟩ := Go.WideShapes.okWide_slice Try.underlying24 hv
  exact ⟨_, _, _, rfl⟩
theorem ratDesc : ∃ f g : Field, Try.prog.underlying 68 = some (.struct #[f, g]) ∧ f.type = 3 ∧ f.offset = 0 ∧ g.type = 3 ∧ g.offset = 1 := ⟨_, _, Try.underlying68, rfl, rfl, rfl, rfl⟩
set_option maxRecDepth 100000 in
theorem trodRat {H : Type} {enc : TypeId × Value → H} {w : World} {base fuel : Nat} {spare : Nat → Bool} {held : Bool} {c0 c1 : Value} {x : DataW H × List MemPlace}
    (h : DataW.trod enc Try.prog w base spare held fuel 68 [c0, c1] = some x) : ∃ a b : Int, c0 = .int .i64 a ∧ c1 = .int .i64 b := by
  obtain ⟨f, g, hu, f1, f2, g1, g2⟩ := ratDesc
  obtain ⟨xs, n, _, _, _, hlen, hf⟩ := DataW.trod_struct hu h
  have e1 : Try.prog.cellsOf 3 = 1 := by kernel_rfl
  match xs, hlen with
  | [y0, y1], _ =>
    have h0 := hf 0 f rfl
    have h1 := hf 1 g rfl
    rw [f1, f2, e1] at h0
    rw [g1, g2, e1] at h1
    obtain ⟨a, q0, _, w0⟩ := DataW.trod_int Try.underlying3 (show DataW.trod enc Try.prog w base spare held n 3 [c0] = some y0 from h0)
    obtain ⟨b, q1, _, w1⟩ := DataW.trod_int Try.underlying3 (show DataW.trod enc Try.prog w base spare held n 3 [c1] = some y1 from h1)
    simp only [List.cons.injEq, and_true] at q0 q1
    exact ⟨a, b, q0, q1⟩
set_option maxRecDepth 100000 in
theorem trodPair {H : Type} {enc : TypeId × Value → H} {w : World} {base fuel : Nat} {spare : Nat → Bool} {held : Bool} {c0 c1 : Value} {x : DataW H × List MemPlace}
    (h : DataW.trod enc Try.prog w base spare held fuel 33 [c0, c1] = some x) : ∃ a b : Int, c0 = .int .i64 a ∧ c1 = .int .i64 b := by
  obtain ⟨xs, m, _, _, _, hl, hel⟩ := DataW.trod_array Try.underlying33 h
  have c3' : Try.prog.cellsOf 3 = 1 := by kernel_rfl
  rw [c3'] at hel
  match xs, hl with
  | [x0, x1], _ =>
    obtain ⟨a, h0, _, w0⟩ := DataW.trod_int Try.underlying3 (show DataW.trod enc Try.prog w base spare held m 3 [c0] = some x0 from hel 0 (by decide))
    obtain ⟨b, h1, _, w1⟩ := DataW.trod_int Try.underlying3 (show DataW.trod enc Try.prog w base spare held m 3 [c1] = some x1 from hel 1 (by decide))
    simp only [List.cons.injEq, and_true] at h0 h1
    exact ⟨a, b, h0, h1⟩
set_option maxRecDepth 100000 in
theorem open_rats {H : Type} {enc : TypeId × Value → H} {w : World} {r : Reach} {base b0 : Nat} {spare : Nat → Bool} {held : Bool} {v : Value} {d : DataW H} {p : List MemPlace}
    (hv : Value.okWide Try.prog w r b0 22 v) (h : DataW.Trod enc Try.prog w base spare held 22 v d p) :
    ∃ (ao : Option Addr) (n cap : Nat) (P Q : Nat → Int), v = .slice ao n cap ∧ n ≤ 9223372036854775807 ∧ Rats w ao n P Q := by
  obtain ⟨ao, len, cap, rfl⟩ := Go.WideShapes.okWide_slice Try.underlying22 hv
  obtain ⟨fuel, hf⟩ := h
  have c5 : Try.prog.cellsOf 68 = 2 := by kernel_rfl
  rcases Go.Deep.open_slice Try.underlying22 (show DataW.trod enc Try.prog w base spare held fuel 22 [.slice ao len cap] = some (d, p) from hf) with ⟨h0, _⟩ | ⟨a, len', cap', m, k, D, Pl, hcs, _, hl, hm, hmm, _, hx⟩
  · simp only [List.cons.injEq, Value.slice.injEq, and_true] at h0
    exact ⟨ao, 0, cap, fun _ => 0, fun _ => 0, by rw [h0.2.1], by omega, fun h => absurd h (by omega)⟩
  · simp only [List.cons.injEq, Value.slice.injEq, and_true] at hcs
    obtain ⟨rfl, rfl, rfl⟩ := hcs
    by_cases h0 : len = 0
    · subst h0
      exact ⟨_, 0, cap, fun _ => 0, fun _ => 0, rfl, by omega, fun h => absurd h (by omega)⟩
    have hlm : len ≤ m := by rw [hmm]; split <;> omega
    obtain ⟨b, o, spot⟩ := a
    have cells : ∀ i, i < len → ∃ z : Int × Int, w.cell? ((⟨b, o, spot⟩ : Addr).add (i * 2)) = some (.int .i64 z.1) ∧ w.cell? (((⟨b, o, spot⟩ : Addr).add (i * 2)).add 1) = some (.int .i64 z.2) := by
      intro i hi
      obtain ⟨cs', h1, h2⟩ := hx i (by omega)
      rw [c5] at h1
      obtain ⟨_, hlen, hcell⟩ := World.cells?_some h1
      match cs', hlen with
      | [v0, v1], _ =>
        obtain ⟨x, y, rfl, rfl⟩ := trodRat h2
        have e0 := hcell 0 (by omega)
        rw [show ∀ x : Addr, x.add 0 = x from fun x => by simp [Addr.add]] at e0
        exact ⟨⟨x, y⟩, e0, hcell 1 (by omega)⟩
    have hspot : spot = none := by
      obtain ⟨z, hz, _⟩ := cells 0 (by omega)
      simpa [Addr.add] using World.cell?_spot hz
    subst hspot
    obtain ⟨f, hf⟩ := Go.Deep.choose_lt cells
    refine ⟨_, len, cap, fun i => (f i).1, fun i => (f i).2, rfl, by unfold maxLen at hm; omega, fun _ => ⟨b, o, rfl, ?_⟩⟩
    intro i hi
    have := hf i hi
    simp only [Addr.add_lit] at this
    exact this
set_option maxRecDepth 100000 in
theorem open_pairs {H : Type} {enc : TypeId × Value → H} {w : World} {r : Reach} {base b0 : Nat} {spare : Nat → Bool} {held : Bool} {v : Value} {d : DataW H} {p : List MemPlace}
    (hv : Value.okWide Try.prog w r b0 30 v) (h : DataW.Trod enc Try.prog w base spare held 30 v d p) :
    ∃ (ao : Option Addr) (n cap : Nat) (P Q : Nat → Int), v = .slice ao n cap ∧ n ≤ 9223372036854775807 ∧ Rats w ao n P Q := by
  obtain ⟨ao, len, cap, rfl⟩ := Go.WideShapes.okWide_slice Try.underlying30 hv
  obtain ⟨fuel, hf⟩ := h
  have c5 : Try.prog.cellsOf 33 = 2 := by kernel_rfl
  rcases Go.Deep.open_slice Try.underlying30 (show DataW.trod enc Try.prog w base spare held fuel 30 [.slice ao len cap] = some (d, p) from hf) with ⟨h0, _⟩ | ⟨a, len', cap', m, k, D, Pl, hcs, _, hl, hm, hmm, _, hx⟩
  · simp only [List.cons.injEq, Value.slice.injEq, and_true] at h0
    exact ⟨ao, 0, cap, fun _ => 0, fun _ => 0, by rw [h0.2.1], by omega, fun h => absurd h (by omega)⟩
  · simp only [List.cons.injEq, Value.slice.injEq, and_true] at hcs
    obtain ⟨rfl, rfl, rfl⟩ := hcs
    by_cases h0 : len = 0
    · subst h0
      exact ⟨_, 0, cap, fun _ => 0, fun _ => 0, rfl, by omega, fun h => absurd h (by omega)⟩
    have hlm : len ≤ m := by rw [hmm]; split <;> omega
    obtain ⟨b, o, spot⟩ := a
    have cells : ∀ i, i < len → ∃ z : Int × Int, w.cell? ((⟨b, o, spot⟩ : Addr).add (i * 2)) = some (.int .i64 z.1) ∧ w.cell? (((⟨b, o, spot⟩ : Addr).add (i * 2)).add 1) = some (.int .i64 z.2) := by
      intro i hi
      obtain ⟨cs', h1, h2⟩ := hx i (by omega)
      rw [c5] at h1
      obtain ⟨_, hlen, hcell⟩ := World.cells?_some h1
      match cs', hlen with
      | [v0, v1], _ =>
        obtain ⟨x, y, rfl, rfl⟩ := trodPair h2
        have e0 := hcell 0 (by omega)
        rw [show ∀ x : Addr, x.add 0 = x from fun x => by simp [Addr.add]] at e0
        exact ⟨⟨x, y⟩, e0, hcell 1 (by omega)⟩
    have hspot : spot = none := by
      obtain ⟨z, hz, _⟩ := cells 0 (by omega)
      simpa [Addr.add] using World.cell?_spot hz
    subst hspot
    obtain ⟨f, hf⟩ := Go.Deep.choose_lt cells
    refine ⟨_, len, cap, fun i => (f i).1, fun i => (f i).2, rfl, by unfold maxLen at hm; omega, fun _ => ⟨b, o, rfl, ?_⟩⟩
    intro i hi
    have := hf i hi
    simp only [Addr.add_lit] at this
    exact this
set_option maxRecDepth 100000 in
theorem open_rows {H : Type} {enc : TypeId × Value → H} {w : World} {base fuel : Nat} {spare : Nat → Bool} {held : Bool} {v : Value} {x : DataW H × List MemPlace}
    (hf : DataW.trod enc Try.prog w base spare held fuel 38 [v] = some x) :
    ∃ (ao : Option Addr) (N cap : Nat) (A : Nat → Option Addr) (l c : Nat → Nat) (F : Nat → Nat → Int), v = .slice ao N cap ∧ N ≤ 9223372036854775807 ∧ Rowsw w ao N A l c F := by
  have c5 : Try.prog.cellsOf 24 = 1 := by kernel_rfl
  rcases Go.Deep.open_slice1 Try.underlying38 c5 hf with ⟨h0, _⟩ | ⟨a, len, cap, m, k, V, D, Pl, hcs, _, hl, hm, hmm, _, hx⟩
  · simp only [List.cons.injEq, and_true] at h0
    exact ⟨none, 0, 0, fun _ => none, fun _ => 0, fun _ => 0, fun _ _ => 0, h0, by omega, fun h => absurd h (by omega), fun i hi => absurd hi (by omega)⟩
  · simp only [List.cons.injEq, and_true] at hcs
    have hlm : len ≤ m := by rw [hmm]; split <;> omega
    have rows : ∀ i, i < len → ∃ z : (Option Addr × Nat × Nat) × (Nat → Int), w.cell? (a.add i) = some (.slice z.1.1 z.1.2.1 z.1.2.2) ∧ z.1.2.1 ≤ 9223372036854775807 ∧ Ints w z.1.1 z.1.2.1 z.2 := by
      intro i hi
      obtain ⟨h1, h2⟩ := hx i (by omega)
      obtain ⟨ao, n, cp, f, hV, hn, hI⟩ := trod_is h2
      rw [hV] at h1
      exact ⟨⟨⟨ao, n, cp⟩, f⟩, h1, hn, hI⟩
    haveI : Inhabited ((Option Addr × Nat × Nat) × (Nat → Int)) := ⟨⟨⟨none, 0, 0⟩, fun _ => 0⟩⟩
    obtain ⟨f, hf⟩ := Go.Deep.choose_lt rows
    refine ⟨some a, len, cap, fun i => (f i).1.1, fun i => (f i).1.2.1, fun i => (f i).1.2.2, fun i => (f i).2, hcs, by unfold maxLen at hm; omega, fun hN => ?_, fun i hi => ⟨(hf i hi).2.1, (hf i hi).2.2⟩⟩
    obtain ⟨b, o, spot⟩ := a
    have hs : spot = none := by simpa [Addr.add] using World.cell?_spot (hf 0 hN).1
    subst hs
    exact ⟨b, o, rfl, fun i hi => by have := (hf i hi).1; rwa [Addr.add_lit] at this⟩
theorem bankDesc : ∃ f : Field, Try.prog.underlying 40 = some (.struct #[f]) ∧ f.type = 38 ∧ f.offset = 0 := ⟨_, Try.underlying40, rfl, rfl⟩
set_option maxRecDepth 100000 in
theorem trodBank {H : Type} {enc : TypeId × Value → H} {w : World} {base fuel : Nat} {spare : Nat → Bool} {held : Bool} {c0 : Value} {x : DataW H × List MemPlace}
    (h : DataW.trod enc Try.prog w base spare held fuel 40 [c0] = some x) :
    ∃ (ao : Option Addr) (N cap : Nat) (A : Nat → Option Addr) (l c : Nat → Nat) (F : Nat → Nat → Int), c0 = .slice ao N cap ∧ N ≤ 9223372036854775807 ∧ Rowsw w ao N A l c F := by
  obtain ⟨f, hu, f1, f2⟩ := bankDesc
  obtain ⟨xs, n, _, _, _, hlen, hf⟩ := DataW.trod_struct hu h
  have e1 : Try.prog.cellsOf 38 = 1 := by kernel_rfl
  match xs, hlen with
  | [y0], _ =>
    have h0 := hf 0 f rfl
    rw [f1, f2, e1] at h0
    exact open_rows (show DataW.trod enc Try.prog w base spare held n 38 [c0] = some y0 from h0)
set_option maxRecDepth 100000 in
theorem open_bank {H : Type} {enc : TypeId × Value → H} {w : World} {r : Reach} {base b0 : Nat} {spare : Nat → Bool} {held : Bool} {v : Value} {d : DataW H} {p : List MemPlace}
    (hv : Value.okWide Try.prog w r b0 40 v) (h : DataW.Trod enc Try.prog w base spare held 40 v d p) :
    ∃ (ao : Option Addr) (N cap : Nat) (A : Nat → Option Addr) (l c : Nat → Nat) (F : Nat → Nat → Int), v = .agg #[.slice ao N cap] ∧ N ≤ 9223372036854775807 ∧ Rowsw w ao N A l c F := by
  obtain ⟨f, hu, f1, f2⟩ := bankDesc
  obtain ⟨cs, rfl, hsz⟩ := okWide_str hu hv
  obtain ⟨c0, rfl⟩ := arr1 (hsz.trans (show Try.prog.cellsOf 40 = 1 by kernel_rfl))
  obtain ⟨fuel, hf⟩ := h
  obtain ⟨ao, N, cap, A, l, c, F, rfl, h1, h2⟩ := trodBank (show DataW.trod enc Try.prog w base spare held fuel 40 [c0] = _ from hf)
  exact ⟨ao, N, cap, A, l, c, F, rfl, h1, h2⟩
theorem powDesc : ∃ f g k : Field, Try.prog.underlying 50 = some (.struct #[f, g, k]) ∧ f.type = 40 ∧ f.offset = 0 ∧ g.type = 24 ∧ g.offset = 1 ∧ k.type = 24 ∧ k.offset = 2 := ⟨_, _, _, Try.underlying50, rfl, rfl, rfl, rfl, rfl, rfl⟩
set_option maxRecDepth 100000 in
theorem open_powers {H : Type} {enc : TypeId × Value → H} {w : World} {r : Reach} {base b0 : Nat} {spare : Nat → Bool} {held : Bool} {v : Value} {d : DataW H} {p : List MemPlace}
    (hv : Value.okWide Try.prog w r b0 50 v) (h : DataW.Trod enc Try.prog w base spare held 50 v d p) :
    ∃ (ao : Option Addr) (N cap : Nat) (A : Nat → Option Addr) (l c : Nat → Nat) (F : Nat → Nat → Int) (bo : Option Addr) (m dap : Nat) (B : Nat → Int) (co : Option Addr) (k fap : Nat) (C : Nat → Int), v = .agg #[.slice ao N cap, .slice bo m dap, .slice co k fap] ∧ (N ≤ 9223372036854775807 ∧ Rowsw w ao N A l c F) ∧ (m ≤ 9223372036854775807 ∧ Ints w bo m B) ∧ k ≤ 9223372036854775807 ∧ Ints w co k C := by
  obtain ⟨f, g, hh, hu, f1, f2, g1, g2, h1, h2⟩ := powDesc
  obtain ⟨cs, rfl, hsz⟩ := okWide_str hu hv
  obtain ⟨c0, c1, c2, rfl⟩ := arr3 (hsz.trans (show Try.prog.cellsOf 50 = 3 by kernel_rfl))
  obtain ⟨fuel, hf⟩ := h
  obtain ⟨xs, n, _, _, _, hlen, hq⟩ := DataW.trod_struct hu (show DataW.trod enc Try.prog w base spare held fuel 50 [c0, c1, c2] = _ from hf)
  have e1 : Try.prog.cellsOf 40 = 1 := by kernel_rfl
  have e2 : Try.prog.cellsOf 24 = 1 := by kernel_rfl
  match xs, hlen with
  | [y0, y1, y2], _ =>
    have q0 := hq 0 f rfl
    have q1 := hq 1 g rfl
    have q2 := hq 2 hh rfl
    rw [f1, f2, e1] at q0
    rw [g1, g2, e2] at q1
    rw [h1, h2, e2] at q2
    obtain ⟨ao, N, cap, A, l, c, F, rfl, p1, p2⟩ := trodBank (show DataW.trod enc Try.prog w base spare held n 40 [c0] = some y0 from q0)
    obtain ⟨bo, m, dap, B, rfl, p3, p4⟩ := trod_is (show DataW.trod enc Try.prog w base spare held n 24 [c1] = some y1 from q1)
    obtain ⟨co, k, fap, C, rfl, p5, p6⟩ := trod_is (show DataW.trod enc Try.prog w base spare held n 24 [c2] = some y2 from q2)
    exact ⟨ao, N, cap, A, l, c, F, bo, m, dap, B, co, k, fap, C, rfl, ⟨p1, p2⟩, ⟨p3, p4⟩, p5, p6⟩
end Go.Proofs.Ytdhlikedjephmaa
