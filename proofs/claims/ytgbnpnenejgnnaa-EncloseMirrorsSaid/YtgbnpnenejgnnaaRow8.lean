import Derived.Test.YtgbnpnenejgnnaaRows
import Derived.WalkKit
import Derived.ProofKit
import Derived.OpenShut
import Derived.Lib.SmallJoins
namespace Go.Proofs.Ytgbnpnenejgnnaa
open Go.ChangeShapes Go.WideShapes Go.ChangeAt Go.RowKit Go.Joins

theorem own : ownKnob Try.prog.godebug = none := by kernel_rfl
theorem laidOut : laidOutB Try.prog = true := by kernel_rfl

theorem trodAll_below {H : Type} {enc : TypeId × Value → H} {P : Program} (hl : laidOutB P = true) {W W' : World} (hb : Below W.heap.size W W') :
    ∀ {ts : List TypeId} {vs : List Value} {ds : List (DataW H)} {ps : List MemPlace}, (∀ t ∈ ts, P.readableRec t = true ∧ t < P.types.size) → (∀ x ∈ ps, x.block < W.heap.size) →
      DataW.TrodAll enc P W 0 (fun _ => true) true ts vs ds ps → DataW.TrodAll enc P W' 0 (fun b => decide (b < W.heap.size)) true ts vs ds ps := by
  intro ts
  induction ts with
  | nil =>
    intro vs ds ps _ _ h
    cases vs <;> cases ds <;> simp_all [DataW.TrodAll]
  | cons t ts ih =>
    intro vs ds ps ht hp h
    match vs, ds, h with
    | v :: vs, d :: ds, h =>
      obtain ⟨p, q, h1, h2, rfl⟩ := h
      exact ⟨p, q, Below.trod hl (ht t (by simp)).1 (ht t (by simp)).2 h1 hb (fun x hx => hp x (by simp [hx])), ih (fun u hu => ht u (by simp [hu])) (fun x hx => hp x (by simp [hx])) h2, rfl⟩

set_option maxRecDepth 100000 in
/-- THE ROW OF A LAW, out of the walk: it returns true and makes new memory alone. -/
theorem law_lifted {H : Type} {enc : TypeId × Value → H} {os : Os} (started : os.Started) {F : FuncId} {fF : Func} {s : ChangeSpec} (hfn : Try.prog.funcs[F]? = some fF) (noInit : Try.prog.inits.idxOf? F = none)
    (witness : ∃ (w : World) (tape : Tape) (i : Input), w.os = os ∧ (w.forCall tape i).Shaped Try.checked.prog ∧ i.vars = [] ∧ Input.okWide Try.checked.prog (w.forCall tape i) .any w.heap.size F i ∧
      s.pre6 enc Try.checked.prog fF [] false (w.forCall tape i).memory i.args ∧ ({} : Assume).holds Try.checked.prog (lone (Frame.enter Try.checked.prog F i.args .normal) [] (w.forCall tape i)))
    (hv : s.vars = []) (hres : fF.resultTypes = #[4]) (hts : ∀ t ∈ fF.params.toList, Try.prog.readableRec t = true ∧ t < Try.prog.types.size)
    (hs : ∀ ds : List (DataW H), ds.length = fF.params.toList.length → s.fn H ds = { results := [.lit (.bool true)], args := ds })
    (walk : ∀ (W : World) (base : Nat) (args : List Value) (ds : List (DataW H)) (ps : List MemPlace), DataW.TrodAll enc Try.prog W 0 (fun _ => true) true fF.params.toList args ds ps →
      (∀ (j : Nat) t v, fF.params[j]? = some t → args[j]? = some v → Value.okWide Try.prog W .any base t v) → Calls Try.prog F args.toArray W fun e w' => e = .returned (.bool true) ∧ Below W.heap.size W w') :
    ReturnsInHanded {} Try.checked os F .any (s.pre6 enc Try.checked.prog fF [] false) (s.post enc Try.checked.prog fF false true false false) := by
  refine returnsInHanded_of_change (C := Try.checked) own started noInit hfn witness ?_
  intro W base args ds gs before hval0 hW _ _
  have hval : ∀ (j : Nat) t v, fF.params[j]? = some t → args.toList[j]? = some v → Value.okWide Try.prog W .any base t v := fun j t v h1 h2 => hval0 j t v h1 (by simpa using h2)
  have hW' := hW
  obtain ⟨p, q, hA0, hV, rfl, _, _⟩ := hW
  have hA : DataW.TrodAll enc Try.prog W 0 (fun _ => true) true fF.params.toList args.toList ds p := hA0
  rw [hv] at hV
  obtain ⟨rfl, rfl⟩ := trodVars_none hV
  have hlen : ∀ {ts : List TypeId} {vs : List Value} {ds : List (DataW H)} {ps : List MemPlace}, DataW.TrodAll enc Try.prog W 0 (fun _ => true) true ts vs ds ps → ds.length = ts.length := by
    intro ts
    induction ts with
    | nil => intro vs ds ps h; cases vs <;> cases ds <;> simp_all [DataW.TrodAll]
    | cons t ts ih =>
      intro vs ds ps h
      match vs, ds, h with
      | v :: vs, d :: ds, ⟨p, q, _, h2, _⟩ => simp [ih h2]
  have hfn := hs ds (hlen hA)
  have hlt : ∀ x ∈ p, x.block < W.heap.size := fun x hx => by simpa using hW'.lt x (by simpa using hx)
  have hcall := walk W base args.toList ds p hA hval
  rw [Array.toArray_toList] at hcall
  refine Calls.mono hcall ?_
  rintro e W' ⟨rfl, hb⟩
  refine ⟨_, rfl, ds, [], p ++ [], [], p, [], hW', ?_, ?_, ?_, hb.frame _, fun h => by cases h⟩
  · show DataW.TrodAll enc Try.prog W' _ _ _ fF.resultTypes.toList ((Value.bool true).resultList fF.resultTypes.size) (s.fn H (ds ++ [])).results []
    rw [List.append_nil, hfn, hres]
    exact trodAll_mk1 (shut_bool Try.underlying4 _)
  · show DataW.TrodAll enc Try.prog W' _ _ _ fF.params.toList args.toList (s.fn H (ds ++ [])).args p
    rw [List.append_nil, hfn]
    exact trodAll_below laidOut hb hts hlt hA
  · show DataW.TrodVars enc Try.prog W' _ s.vars (s.fn H (ds ++ [])).vars []
    rw [List.append_nil, hfn, hv]
    rfl

theorem okWide_array {P : Program} {t e : TypeId} {n base : Nat} {w : World} {r : Reach} {v : Value} (ht : P.underlying t = some (.array n e)) (h : Value.okWide P w r base t v) : ∃ cs, v = .agg cs ∧ cs.size = P.cellsOf t := by
  simp only [Value.okWide, ht] at h
  obtain ⟨cs, h1, h2, _⟩ := h
  exact ⟨cs, h1, h2⟩
theorem array5 {α : Type} {cs : Array α} (h : cs.size = 5) : ∃ c0 c1 c2 c3 c4, cs = #[c0, c1, c2, c3, c4] := by
  obtain ⟨l⟩ := cs
  match l, h with
  | [c0, c1, c2, c3, c4], _ => exact ⟨c0, c1, c2, c3, c4, rfl⟩
def rng (n : Int) : Prop := -9223372036854775808 ≤ n ∧ n ≤ 9223372036854775807
theorem rng_of {n : Int} (h : (Lit.int .i64 n).wf = true) : rng n := by
  have := bounds_i64 h
  unfold rng; omega
set_option maxRecDepth 100000 in
theorem open_i64 {H : Type} {enc : TypeId × Value → H} {w : World} {r : Reach} {base b0 : Nat} {spare : Nat → Bool} {held : Bool} {v : Value} {d : DataW H} {p : List MemPlace}
    (hv : Value.okWide Try.prog w r b0 3 v) (h : DataW.Trod enc Try.prog w base spare held 3 v d p) : ∃ n : Int, v = .int .i64 n ∧ rng n := by
  obtain ⟨x, rfl, _, _, wx⟩ := open_int Try.underlying3 hv h
  exact ⟨x, rfl, rng_of wx⟩
theorem ta_cons {H : Type} {enc : TypeId × Value → H} {P : Program} {w : World} {base : Nat} {sp : Nat → Bool} {held : Bool} {t : TypeId} {ts : List TypeId} {vs : List Value} {ds : List (DataW H)} {ps : List MemPlace}
    (h : DataW.TrodAll enc P w base sp held (t :: ts) vs ds ps) : ∃ v vs' d p q ds', vs = v :: vs' ∧ DataW.Trod enc P w base sp held t v d p ∧ DataW.TrodAll enc P w base sp held ts vs' ds' q := by
  cases vs with
  | nil => cases ds <;> simp [DataW.TrodAll] at h
  | cons v vs =>
    cases ds with
    | nil => simp [DataW.TrodAll] at h
    | cons d ds =>
      obtain ⟨p, q, h1, h2, _⟩ := h
      exact ⟨v, vs, d, p, q, ds, rfl, h1, h2⟩
theorem ta_nil {H : Type} {enc : TypeId × Value → H} {P : Program} {w : World} {base : Nat} {sp : Nat → Bool} {held : Bool} {vs : List Value} {ds : List (DataW H)} {ps : List MemPlace}
    (h : DataW.TrodAll enc P w base sp held [] vs ds ps) : vs = [] := by
  cases vs with
  | nil => rfl
  | cons v vs => cases ds <;> simp [DataW.TrodAll] at h
theorem len_one {α : Type} {l : List α} (h : l.length = 1) : ∃ a, l = [a] := by
  match l, h with
  | [a], _ => exact ⟨a, rfl⟩
theorem len_two {α : Type} {l : List α} (h : l.length = 2) : ∃ a b, l = [a, b] := by
  match l, h with
  | [a, b], _ => exact ⟨a, b, rfl⟩
theorem len_three {α : Type} {l : List α} (h : l.length = 3) : ∃ a b c, l = [a, b, c] := by
  match l, h with
  | [a, b, c], _ => exact ⟨a, b, c, rfl⟩
theorem list2 {α : Type} {l : List α} (h : l.length = 2) : ∃ a b, l = [a, b] := by
  match l, h with
  | [a, b], _ => exact ⟨a, b, rfl⟩
theorem spanDesc : ∃ f g : Field, Try.prog.underlying 23 = some (.struct #[f, g]) ∧ f.type = 3 ∧ f.offset = 0 ∧ g.type = 3 ∧ g.offset = 1 := ⟨_, _, Try.underlying23, rfl, rfl, rfl, rfl⟩
theorem rectDesc : ∃ f g : Field, Try.prog.underlying 25 = some (.struct #[f, g]) ∧ f.type = 23 ∧ f.offset = 0 ∧ g.type = 23 ∧ g.offset = 2 := ⟨_, _, Try.underlying25, rfl, rfl, rfl, rfl⟩
set_option maxRecDepth 100000 in
theorem trodSpan {H : Type} {enc : TypeId × Value → H} {w : World} {base fuel : Nat} {spare : Nat → Bool} {held : Bool} {c0 c1 : Value} {x : DataW H × List MemPlace}
    (h : DataW.trod enc Try.prog w base spare held fuel 23 [c0, c1] = some x) : ∃ a b : Int, c0 = .int .i64 a ∧ c1 = .int .i64 b ∧ rng a ∧ rng b := by
  obtain ⟨f, g, hu, f1, f2, g1, g2⟩ := spanDesc
  obtain ⟨xs, n, _, _, _, hlen, hf⟩ := DataW.trod_struct hu h
  have e1 : Try.prog.cellsOf 3 = 1 := by kernel_rfl
  match xs, hlen with
  | [y0, y1], _ =>
    have h0 := hf 0 f rfl
    have h1 := hf 1 g rfl
    rw [f1, f2, e1] at h0
    rw [g1, g2, e1] at h1
    obtain ⟨a, q0, _, w0⟩ := DataW.trod_int Try.underlying3 (show DataW.trod enc Try.prog w base spare held n 3 [c0] = some y0 from h0)
    obtain ⟨b, q1, _, w1⟩ := DataW.trod_int Try.underlying3 (show DataW.trod enc Try.prog w base spare held n 3 [c1] = some y1 from h1)
    simp only [List.cons.injEq, and_true] at q0 q1
    exact ⟨a, b, q0, q1, rng_of w0, rng_of w1⟩
set_option maxRecDepth 100000 in
theorem trodRect {H : Type} {enc : TypeId × Value → H} {w : World} {base fuel : Nat} {spare : Nat → Bool} {held : Bool} {c0 c1 c2 c3 : Value} {x : DataW H × List MemPlace}
    (h : DataW.trod enc Try.prog w base spare held fuel 25 [c0, c1, c2, c3] = some x) : ∃ a b c d : Int, c0 = .int .i64 a ∧ c1 = .int .i64 b ∧ c2 = .int .i64 c ∧ c3 = .int .i64 d ∧ rng a ∧ rng b ∧ rng c ∧ rng d := by
  obtain ⟨f, g, hu, f1, f2, g1, g2⟩ := rectDesc
  obtain ⟨xs, n, _, _, _, hlen, hf⟩ := DataW.trod_struct hu h
  have e2 : Try.prog.cellsOf 23 = 2 := by kernel_rfl
  match xs, hlen with
  | [y0, y1], _ =>
    have h0 := hf 0 f rfl
    have h1 := hf 1 g rfl
    rw [f1, f2, e2] at h0
    rw [g1, g2, e2] at h1
    obtain ⟨a, b, q0, q1, r0, r1⟩ := trodSpan (show DataW.trod enc Try.prog w base spare held n 23 [c0, c1] = some y0 from h0)
    obtain ⟨c, d, q2, q3, r2, r3⟩ := trodSpan (show DataW.trod enc Try.prog w base spare held n 23 [c2, c3] = some y1 from h1)
    exact ⟨a, b, c, d, q0, q1, q2, q3, r0, r1, r2, r3⟩
theorem okWide_str {P : Program} {t : TypeId} {fs : Array Field} {base : Nat} {w : World} {r : Reach} {v : Value} (ht : P.underlying t = some (.struct fs)) (h : Value.okWide P w r base t v) : ∃ cs, v = .agg cs ∧ cs.size = P.cellsOf t := by
  simp only [Value.okWide, ht] at h
  obtain ⟨cs, h1, h2, _⟩ := h
  exact ⟨cs, h1, h2⟩
theorem arr4 {α : Type} {cs : Array α} (h : cs.size = 4) : ∃ c0 c1 c2 c3, cs = #[c0, c1, c2, c3] := by
  obtain ⟨l⟩ := cs
  match l, h with
  | [c0, c1, c2, c3], _ => exact ⟨c0, c1, c2, c3, rfl⟩
set_option maxRecDepth 100000 in
theorem open_rect {H : Type} {enc : TypeId × Value → H} {w : World} {r : Reach} {base b0 : Nat} {spare : Nat → Bool} {held : Bool} {v : Value} {d : DataW H} {p : List MemPlace}
    (hv : Value.okWide Try.prog w r b0 25 v) (h : DataW.Trod enc Try.prog w base spare held 25 v d p) :
    ∃ a b c d : Int, v = .agg #[.int .i64 a, .int .i64 b, .int .i64 c, .int .i64 d] ∧ rng a ∧ rng b ∧ rng c ∧ rng d := by
  obtain ⟨f, g, hu, _⟩ := rectDesc
  obtain ⟨cs, rfl, hsz⟩ := okWide_str hu hv
  obtain ⟨c0, c1, c2, c3, rfl⟩ := arr4 (hsz.trans (show Try.prog.cellsOf 25 = 4 by kernel_rfl))
  obtain ⟨fuel, hf⟩ := h
  obtain ⟨a, b, c, d, rfl, rfl, rfl, rfl, hr⟩ := trodRect (show DataW.trod enc Try.prog w base spare held fuel 25 [c0, c1, c2, c3] = _ from hf)
  exact ⟨a, b, c, d, rfl, hr⟩
end Go.Proofs.Ytgbnpnenejgnnaa

namespace Go.Proofs.Ytgbnpnenejgnnaa
open Go.ChangeShapes Go.WideShapes Go.ChangeAt Go.RowKit Go.Joins
theorem arr16 {α : Type} {cs : Array α} (h : cs.size = 16) : ∃ v0 v1 v2 v3 v4 v5 v6 v7 v8 v9 v10 v11 v12 v13 v14 v15, cs = #[v0, v1, v2, v3, v4, v5, v6, v7, v8, v9, v10, v11, v12, v13, v14, v15] := by
  obtain ⟨l⟩ := cs
  match l, h with
  | [v0, v1, v2, v3, v4, v5, v6, v7, v8, v9, v10, v11, v12, v13, v14, v15], _ => exact ⟨v0, v1, v2, v3, v4, v5, v6, v7, v8, v9, v10, v11, v12, v13, v14, v15, rfl⟩
theorem portDesc : ∃ f : Field, Try.prog.underlying 49 = some (.struct #[f]) ∧ f.type = 47 ∧ f.offset = 0 := ⟨_, Try.underlying49, rfl, rfl⟩
set_option maxRecDepth 100000 in
theorem trodRow {H : Type} {enc : TypeId × Value → H} {w : World} {base fuel : Nat} {spare : Nat → Bool} {held : Bool} {v0 v1 v2 v3 v4 v5 v6 v7 : Value} {x : DataW H × List MemPlace}
    (h : DataW.trod enc Try.prog w base spare held fuel 46 [v0, v1, v2, v3, v4, v5, v6, v7] = some x) :
    ∃ a0 b0 c0 d0 a1 b1 c1 d1 : Int, v0 = .int .i64 a0 ∧ v1 = .int .i64 b0 ∧ v2 = .int .i64 c0 ∧ v3 = .int .i64 d0 ∧ v4 = .int .i64 a1 ∧ v5 = .int .i64 b1 ∧ v6 = .int .i64 c1 ∧ v7 = .int .i64 d1 := by
  obtain ⟨xs, m, _, _, _, hl, hel⟩ := DataW.trod_array Try.underlying46 h
  have c4' : Try.prog.cellsOf 25 = 4 := by kernel_rfl
  rw [c4'] at hel
  match xs, hl with
  | [x0, x1], _ =>
    obtain ⟨a0, b0, c0, d0, h0, h1, h2, h3, _⟩ := trodRect (show DataW.trod enc Try.prog w base spare held m 25 [v0, v1, v2, v3] = some x0 from hel 0 (by decide))
    obtain ⟨a1, b1, c1, d1, h4, h5, h6, h7, _⟩ := trodRect (show DataW.trod enc Try.prog w base spare held m 25 [v4, v5, v6, v7] = some x1 from hel 1 (by decide))
    exact ⟨a0, b0, c0, d0, a1, b1, c1, d1, h0, h1, h2, h3, h4, h5, h6, h7⟩
set_option maxRecDepth 100000 in
theorem open_port {H : Type} {enc : TypeId × Value → H} {w : World} {r : Reach} {base b0' : Nat} {spare : Nat → Bool} {held : Bool} {v : Value} {d : DataW H} {p : List MemPlace}
    (hv : Value.okWide Try.prog w r b0' 49 v) (h : DataW.Trod enc Try.prog w base spare held 49 v d p) :
    ∃ a0 b0 c0 d0 a1 b1 c1 d1 a2 b2 c2 d2 a3 b3 c3 d3 : Int, v = .agg #[.int .i64 a0, .int .i64 b0, .int .i64 c0, .int .i64 d0, .int .i64 a1, .int .i64 b1, .int .i64 c1, .int .i64 d1, .int .i64 a2, .int .i64 b2, .int .i64 c2, .int .i64 d2, .int .i64 a3, .int .i64 b3, .int .i64 c3, .int .i64 d3] := by
  obtain ⟨f, hu, f1, f2⟩ := portDesc
  obtain ⟨cs, rfl, hsz⟩ := okWide_str hu hv
  obtain ⟨v0, v1, v2, v3, v4, v5, v6, v7, v8, v9, v10, v11, v12, v13, v14, v15, rfl⟩ := arr16 (hsz.trans (show Try.prog.cellsOf 49 = 16 by kernel_rfl))
  obtain ⟨fuel, hf⟩ := h
  obtain ⟨xs, n, _, _, _, hlen, hff⟩ := DataW.trod_struct hu (show DataW.trod enc Try.prog w base spare held fuel 49 [v0, v1, v2, v3, v4, v5, v6, v7, v8, v9, v10, v11, v12, v13, v14, v15] = _ from hf)
  have e16 : Try.prog.cellsOf 47 = 16 := by kernel_rfl
  match xs, hlen with
  | [y0], _ =>
    have h0 := hff 0 f rfl
    rw [f1, f2, e16] at h0
    have h0' : DataW.trod enc Try.prog w base spare held n 47 [v0, v1, v2, v3, v4, v5, v6, v7, v8, v9, v10, v11, v12, v13, v14, v15] = some y0 := h0
    obtain ⟨zs, m, _, _, _, hl, hel⟩ := DataW.trod_array Try.underlying47 h0'
    have c8' : Try.prog.cellsOf 46 = 8 := by kernel_rfl
    rw [c8'] at hel
    match zs, hl with
    | [x0, x1], _ =>
      obtain ⟨a0, b0, c0, d0, a1, b1, c1, d1, rfl, rfl, rfl, rfl, rfl, rfl, rfl, rfl⟩ := trodRow (show DataW.trod enc Try.prog w base spare held m 46 [v0, v1, v2, v3, v4, v5, v6, v7] = some x0 from hel 0 (by decide))
      obtain ⟨a2, b2, c2, d2, a3, b3, c3, d3, rfl, rfl, rfl, rfl, rfl, rfl, rfl, rfl⟩ := trodRow (show DataW.trod enc Try.prog w base spare held m 46 [v8, v9, v10, v11, v12, v13, v14, v15] = some x1 from hel 1 (by decide))
      exact ⟨a0, b0, c0, d0, a1, b1, c1, d1, a2, b2, c2, d2, a3, b3, c3, d3, rfl⟩
end Go.Proofs.Ytgbnpnenejgnnaa
