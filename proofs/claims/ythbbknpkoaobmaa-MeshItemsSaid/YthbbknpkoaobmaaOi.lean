import Derived.Test.YthbbknpkoaobmaaRows
import Derived.WalkKit
import Derived.ProofKit
import Derived.OpenShut
import Derived.Lib.SmallJoins
import Derived.Test.YthbbknpkoaobmaaLst
import Derived.Deep.Slices
import Derived.Test.YthbbknpkoaobmaaPdm
namespace Go.Proofs.Ythbbknpkoaobmaa
open Go.ChangeShapes Go.WideShapes Go.ChangeAt Go.RowKit Go.Joins

theorem own : ownKnob Try.prog.godebug = none := by kernel_rfl
theorem laidOut : laidOutB Try.prog = true := by kernel_rfl

theorem trodAll_below {H : Type} {enc : TypeId × Value → H} {P : Program} (hl : laidOutB P = true) {W W' : World} (hb : Below W.heap.size W W') :
    ∀ {ts : List TypeId} {vs : List Value} {ds : List (DataW H)} {ps : List MemPlace}, (∀ t ∈ ts, P.readableRec t = true ∧ t < P.types.size) → (∀ x ∈ ps, x.block < W.heap.size) →
      DataW.TrodAll enc P W 0 (fun _ => true) true ts vs ds ps → DataW.TrodAll enc P W' 0 (fun b => decide (b < W.heap.size)) true ts vs ds ps := by
  intro ts
  induction ts with
  | nil =>
    intro vs ds ps _ _ h
    cases vs <;> cases ds <;> simp_all [DataW.TrodAll]
  | cons t ts ih =>
    intro vs ds ps ht hp h
    match vs, ds, h with
    | v :: vs, d :: ds, h =>
      obtain ⟨p, q, h1, h2, rfl⟩ := h
      exact ⟨p, q, Below.trod hl (ht t (by simp)).1 (ht t (by simp)).2 h1 hb (fun x hx => hp x (by simp [hx])), ih (fun u hu => ht u (by simp [hu])) (fun x hx => hp x (by simp [hx])) h2, rfl⟩

set_option maxRecDepth 100000 in
/-- THE ROW OF A LAW, out of the walk: it returns true and makes new memory alone. -/
theorem law_lifted {H : Type} {enc : TypeId × Value → H} {os : Os} (started : os.Started) {F : FuncId} {fF : Func} {s : ChangeSpec} (hfn : Try.prog.funcs[F]? = some fF) (noInit : Try.prog.inits.idxOf? F = none)
    (witness : ∃ (w : World) (tape : Tape) (i : Input), w.os = os ∧ (w.forCall tape i).Shaped Try.checked.prog ∧ i.vars = [] ∧ Input.okWide Try.checked.prog (w.forCall tape i) .any w.heap.size F i ∧
      s.pre6 enc Try.checked.prog fF [] false (w.forCall tape i).memory i.args ∧ ({} : Assume).holds Try.checked.prog (lone (Frame.enter Try.checked.prog F i.args .normal) [] (w.forCall tape i)))
    (hv : s.vars = []) (hres : fF.resultTypes = #[4]) (hts : ∀ t ∈ fF.params.toList, Try.prog.readableRec t = true ∧ t < Try.prog.types.size)
    (hs : ∀ ds : List (DataW H), ds.length = fF.params.toList.length → s.fn H ds = { results := [.lit (.bool true)], args := ds })
    (walk : ∀ (W : World) (base : Nat) (args : List Value) (ds : List (DataW H)) (ps : List MemPlace), DataW.TrodAll enc Try.prog W 0 (fun _ => true) true fF.params.toList args ds ps →
      (∀ (j : Nat) t v, fF.params[j]? = some t → args[j]? = some v → Value.okWide Try.prog W .any base t v) → Calls Try.prog F args.toArray W fun e w' => e = .returned (.bool true) ∧ Below W.heap.size W w') :
    ReturnsInHanded {} Try.checked os F .any (s.pre6 enc Try.checked.prog fF [] false) (s.post enc Try.checked.prog fF false true false false) := by
  refine returnsInHanded_of_change (C := Try.checked) own started noInit hfn witness ?_
  intro W base args ds gs before hval0 hW _ _
  have hval : ∀ (j : Nat) t v, fF.params[j]? = some t → args.toList[j]? = some v → Value.okWide Try.prog W .any base t v := fun j t v h1 h2 => hval0 j t v h1 (by simpa using h2)
  have hW' := hW
  obtain ⟨p, q, hA0, hV, rfl, _, _⟩ := hW
  have hA : DataW.TrodAll enc Try.prog W 0 (fun _ => true) true fF.params.toList args.toList ds p := hA0
  rw [hv] at hV
  obtain ⟨rfl, rfl⟩ := trodVars_none hV
  have hlen : ∀ {ts : List TypeId} {vs : List Value} {ds : List (DataW H)} {ps : List MemPlace}, DataW.TrodAll enc Try.prog W 0 (fun _ => true) true ts vs ds ps → ds.length = ts.length := by
    intro ts
    induction ts with
    | nil => intro vs ds ps h; cases vs <;> cases ds <;> simp_all [DataW.TrodAll]
    | cons t ts ih =>
      intro vs ds ps h
      match vs, ds, h with
      | v :: vs, d :: ds, ⟨p, q, _, h2, _⟩ => simp [ih h2]
  have hfn := hs ds (hlen hA)
  have hlt : ∀ x ∈ p, x.block < W.heap.size := fun x hx => by simpa using hW'.lt x (by simpa using hx)
  have hcall := walk W base args.toList ds p hA hval
  rw [Array.toArray_toList] at hcall
  refine Calls.mono hcall ?_
  rintro e W' ⟨rfl, hb⟩
  refine ⟨_, rfl, ds, [], p ++ [], [], p, [], hW', ?_, ?_, ?_, hb.frame _, fun h => by cases h⟩
  · show DataW.TrodAll enc Try.prog W' _ _ _ fF.resultTypes.toList ((Value.bool true).resultList fF.resultTypes.size) (s.fn H (ds ++ [])).results []
    rw [List.append_nil, hfn, hres]
    exact trodAll_mk1 (shut_bool Try.underlying4 _)
  · show DataW.TrodAll enc Try.prog W' _ _ _ fF.params.toList args.toList (s.fn H (ds ++ [])).args p
    rw [List.append_nil, hfn]
    exact trodAll_below laidOut hb hts hlt hA
  · show DataW.TrodVars enc Try.prog W' _ s.vars (s.fn H (ds ++ [])).vars []
    rw [List.append_nil, hfn, hv]
    rfl

theorem okWide_array {P : Program} {t e : TypeId} {n base : Nat} {w : World} {r : Reach} {v : Value} (ht : P.underlying t = some (.array n e)) (h : Value.okWide P w r base t v) : ∃ cs, v = .agg cs ∧ cs.size = P.cellsOf t := by
  simp only [Value.okWide, ht] at h
  obtain ⟨cs, h1, h2, _⟩ := h
  exact ⟨cs, h1, h2⟩
theorem array5 {α : Type} {cs : Array α} (h : cs.size = 5) : ∃ c0 c1 c2 c3 c4, cs = #[c0, c1, c2, c3, c4] := by
  obtain ⟨l⟩ := cs
  match l, h with
  | [c0, c1, c2, c3, c4], _ => exact ⟨c0, c1, c2, c3, c4, rfl⟩
def rng (n : Int) : Prop := -9223372036854775808 ≤ n ∧ n ≤ 9223372036854775807
theorem rng_of {n : Int} (h : (Lit.int .i64 n).wf = true) : rng n := by
  have := bounds_i64 h
  unfold rng; omega
set_option maxRecDepth 100000 in
theorem trod4 {H : Type} {enc : TypeId × Value → H} {w : World} {base fuel : Nat} {spare : Nat → Bool} {held : Bool} {c0 c1 c2 c3 : Value} {x : DataW H × List MemPlace}
    (h : DataW.trod enc Try.prog w base spare held fuel 39 [c0, c1, c2, c3] = some x) :
    ∃ a b c d : Int, c0 = .int .i64 a ∧ c1 = .int .i64 b ∧ c2 = .int .i64 c ∧ c3 = .int .i64 d ∧ rng a ∧ rng b ∧ rng c ∧ rng d := by
  obtain ⟨xs, m, _, _, _, hl, hel⟩ := DataW.trod_array Try.underlying39 h
  have c3' : Try.prog.cellsOf 3 = 1 := by kernel_rfl
  rw [c3'] at hel
  match xs, hl with
  | [x0, x1, x2, x3], _ =>
    obtain ⟨a, h0, _, w0⟩ := DataW.trod_int Try.underlying3 (show DataW.trod enc Try.prog w base spare held m 3 [c0] = some x0 from hel 0 (by decide))
    obtain ⟨b, h1, _, w1⟩ := DataW.trod_int Try.underlying3 (show DataW.trod enc Try.prog w base spare held m 3 [c1] = some x1 from hel 1 (by decide))
    obtain ⟨c, h2, _, w2⟩ := DataW.trod_int Try.underlying3 (show DataW.trod enc Try.prog w base spare held m 3 [c2] = some x2 from hel 2 (by decide))
    obtain ⟨d, h3, _, w3⟩ := DataW.trod_int Try.underlying3 (show DataW.trod enc Try.prog w base spare held m 3 [c3] = some x3 from hel 3 (by decide))
    simp only [List.cons.injEq, and_true] at h0 h1 h2 h3
    exact ⟨a, b, c, d, h0, h1, h2, h3, rng_of w0, rng_of w1, rng_of w2, rng_of w3⟩
set_option maxRecDepth 100000 in
theorem open_arr {H : Type} {enc : TypeId × Value → H} {w : World} {r : Reach} {base b0 : Nat} {spare : Nat → Bool} {held : Bool} {v : Value} {d : DataW H} {p : List MemPlace}
    (hv : Value.okWide Try.prog w r b0 39 v) (h : DataW.Trod enc Try.prog w base spare held 39 v d p) :
    ∃ a b c d : Int, v = .agg #[.int .i64 a, .int .i64 b, .int .i64 c, .int .i64 d] ∧ rng a ∧ rng b ∧ rng c ∧ rng d := by
  obtain ⟨cs, rfl, hsz⟩ := okWide_array Try.underlying39 hv
  obtain ⟨c0, c1, c2, c3, rfl⟩ := array4 (hsz.trans (show Try.prog.cellsOf 39 = 4 by kernel_rfl))
  obtain ⟨fuel, hf⟩ := h
  obtain ⟨a, b, c, d, rfl, rfl, rfl, rfl, hr⟩ := trod4 (show DataW.trod enc Try.prog w base spare held fuel 39 [c0, c1, c2, c3] = _ from hf)
  exact ⟨a, b, c, d, rfl, hr⟩
set_option maxRecDepth 100000 in
theorem struct24 : ∃ f g : Field, Try.prog.underlying 55 = some (.struct #[f, g]) ∧ f.type = 39 ∧ f.offset = 0 ∧ g.type = 3 ∧ g.offset = 4 := ⟨_, _, Try.underlying55, rfl, rfl, rfl, rfl⟩
set_option maxRecDepth 100000 in
theorem trod5 {H : Type} {enc : TypeId × Value → H} {w : World} {base fuel : Nat} {spare : Nat → Bool} {held : Bool} {c0 c1 c2 c3 c4 : Value} {x : DataW H × List MemPlace}
    (h : DataW.trod enc Try.prog w base spare held fuel 55 [c0, c1, c2, c3, c4] = some x) :
    ∃ a b c d k : Int, c0 = .int .i64 a ∧ c1 = .int .i64 b ∧ c2 = .int .i64 c ∧ c3 = .int .i64 d ∧ c4 = .int .i64 k ∧ rng a ∧ rng b ∧ rng c ∧ rng d ∧ rng k := by
  obtain ⟨f, g, hu, f1, f2, g1, g2⟩ := struct24
  obtain ⟨xs, n, _, _, _, hlen, hf⟩ := DataW.trod_struct hu h
  have e4 : Try.prog.cellsOf 39 = 4 := by kernel_rfl
  have e1 : Try.prog.cellsOf 3 = 1 := by kernel_rfl
  match xs, hlen with
  | [y0, y1], _ =>
    have h0 := hf 0 f rfl
    have h1 := hf 1 g rfl
    rw [f1, f2, e4] at h0
    rw [g1, g2, e1] at h1
    obtain ⟨a, b, c, d, q0, q1, q2, q3, r0, r1, r2, r3⟩ := trod4 (show DataW.trod enc Try.prog w base spare held n 39 [c0, c1, c2, c3] = some y0 from h0)
    obtain ⟨k, q4, _, w4⟩ := DataW.trod_int Try.underlying3 (show DataW.trod enc Try.prog w base spare held n 3 [c4] = some y1 from h1)
    simp only [List.cons.injEq, and_true] at q4
    exact ⟨a, b, c, d, k, q0, q1, q2, q3, q4, r0, r1, r2, r3, rng_of w4⟩
set_option maxRecDepth 100000 in
theorem open_num {H : Type} {enc : TypeId × Value → H} {w : World} {r : Reach} {base b0 : Nat} {spare : Nat → Bool} {held : Bool} {v : Value} {d : DataW H} {p : List MemPlace}
    (hv : Value.okWide Try.prog w r b0 55 v) (h : DataW.Trod enc Try.prog w base spare held 55 v d p) :
    ∃ a b c d k : Int, v = .agg #[.int .i64 a, .int .i64 b, .int .i64 c, .int .i64 d, .int .i64 k] ∧ rng a ∧ rng b ∧ rng c ∧ rng d ∧ rng k := by
  obtain ⟨cs, rfl, hsz⟩ := okWide_struct Try.underlying55 hv
  obtain ⟨c0, c1, c2, c3, c4, rfl⟩ := array5 (hsz.trans (show Try.prog.cellsOf 55 = 5 by kernel_rfl))
  obtain ⟨fuel, hf⟩ := h
  obtain ⟨a, b, c, d, k, rfl, rfl, rfl, rfl, rfl, hr⟩ := trod5 (show DataW.trod enc Try.prog w base spare held fuel 55 [c0, c1, c2, c3, c4] = _ from hf)
  exact ⟨a, b, c, d, k, rfl, hr⟩
set_option maxRecDepth 100000 in
theorem open_i64 {H : Type} {enc : TypeId × Value → H} {w : World} {r : Reach} {base b0 : Nat} {spare : Nat → Bool} {held : Bool} {v : Value} {d : DataW H} {p : List MemPlace}
    (hv : Value.okWide Try.prog w r b0 3 v) (h : DataW.Trod enc Try.prog w base spare held 3 v d p) : ∃ n : Int, v = .int .i64 n ∧ rng n := by
  obtain ⟨x, rfl, _, _, wx⟩ := open_int Try.underlying3 hv h
  exact ⟨x, rfl, rng_of wx⟩
theorem ta_cons {H : Type} {enc : TypeId × Value → H} {P : Program} {w : World} {base : Nat} {sp : Nat → Bool} {held : Bool} {t : TypeId} {ts : List TypeId} {vs : List Value} {ds : List (DataW H)} {ps : List MemPlace}
    (h : DataW.TrodAll enc P w base sp held (t :: ts) vs ds ps) : ∃ v vs' d p q ds', vs = v :: vs' ∧ DataW.Trod enc P w base sp held t v d p ∧ DataW.TrodAll enc P w base sp held ts vs' ds' q := by
  cases vs with
  | nil => cases ds <;> simp [DataW.TrodAll] at h
  | cons v vs =>
    cases ds with
    | nil => simp [DataW.TrodAll] at h
    | cons d ds =>
      obtain ⟨p, q, h1, h2, _⟩ := h
      exact ⟨v, vs, d, p, q, ds, rfl, h1, h2⟩
theorem ta_nil {H : Type} {enc : TypeId × Value → H} {P : Program} {w : World} {base : Nat} {sp : Nat → Bool} {held : Bool} {vs : List Value} {ds : List (DataW H)} {ps : List MemPlace}
    (h : DataW.TrodAll enc P w base sp held [] vs ds ps) : vs = [] := by
  cases vs with
  | nil => rfl
  | cons v vs => cases ds <;> simp [DataW.TrodAll] at h
theorem len_one {α : Type} {l : List α} (h : l.length = 1) : ∃ a, l = [a] := by
  match l, h with
  | [a], _ => exact ⟨a, rfl⟩
theorem len_two {α : Type} {l : List α} (h : l.length = 2) : ∃ a b, l = [a, b] := by
  match l, h with
  | [a, b], _ => exact ⟨a, b, rfl⟩
theorem len_three {α : Type} {l : List α} (h : l.length = 3) : ∃ a b c, l = [a, b, c] := by
  match l, h with
  | [a, b, c], _ => exact ⟨a, b, c, rfl⟩
end Go.Proofs.Ythbbknpkoaobmaa

namespace Go.Proofs.Ythbbknpkoaobmaa
open Go.RowKit Amp Go.ChangeShapes
attribute [local go_sem] ix0 ix1 ix2 ix3 jx0 jx1 jx2 jx3
attribute [local go_sem high] run_eqNum run_neNum

set_option maxRecDepth 100000 in
theorem open_nums {H : Type} {enc : TypeId × Value → H} {w : World} {r : Reach} {base b0 : Nat} {spare : Nat → Bool} {held : Bool} {v : Value} {d : DataW H} {p : List MemPlace}
    (hv : Value.okWide Try.prog w r b0 23 v) (h : DataW.Trod enc Try.prog w base spare held 23 v d p) :
    (∃ ao cap, v = .slice ao 0 cap) ∨ ∃ (b o n cap : Nat) (f : Nat → Nm), v = .slice (some ⟨b, o, none⟩) n cap ∧ n ≤ 9223372036854775807 ∧ ∀ i, i < n → NumAt w b (o + i * 5) (f i) := by
  obtain ⟨ao, len, cap, rfl⟩ := Go.WideShapes.okWide_slice Try.underlying23 hv
  obtain ⟨fuel, hf⟩ := h
  have c5 : Try.prog.cellsOf 55 = 5 := by kernel_rfl
  rcases Go.Deep.open_slice Try.underlying23 (show DataW.trod enc Try.prog w base spare held fuel 23 [.slice ao len cap] = some (d, p) from hf) with ⟨h0, _⟩ | ⟨a, len', cap', m, k, D, Pl, hcs, _, hl, hm, hmm, _, hx⟩
  · left
    simp only [List.cons.injEq, Value.slice.injEq, and_true] at h0
    exact ⟨ao, cap, by rw [h0.2.1]⟩
  · simp only [List.cons.injEq, Value.slice.injEq, and_true] at hcs
    obtain ⟨rfl, rfl, rfl⟩ := hcs
    by_cases h0 : len = 0
    · subst h0; exact Or.inl ⟨_, _, rfl⟩
    right
    have hlm : len ≤ m := by rw [hmm]; split <;> omega
    obtain ⟨b, o, spot⟩ := a
    have cells : ∀ i, i < len → ∃ z : Nm, w.cell? ((⟨b, o, spot⟩ : Addr).add (i * 5)) = some (.int .i64 z.v.a) ∧ w.cell? (((⟨b, o, spot⟩ : Addr).add (i * 5)).add 1) = some (.int .i64 z.v.b) ∧ w.cell? (((⟨b, o, spot⟩ : Addr).add (i * 5)).add 2) = some (.int .i64 z.v.c) ∧ w.cell? (((⟨b, o, spot⟩ : Addr).add (i * 5)).add 3) = some (.int .i64 z.v.d) ∧ w.cell? (((⟨b, o, spot⟩ : Addr).add (i * 5)).add 4) = some (.int .i64 z.k) := by
      intro i hi
      obtain ⟨cs', h1, h2⟩ := hx i (by omega)
      rw [c5] at h1
      obtain ⟨_, hlen, hcell⟩ := World.cells?_some h1
      match cs', hlen with
      | [v0, v1, v2, v3, v4], _ =>
        obtain ⟨a, b', c, d', k', rfl, rfl, rfl, rfl, rfl, _⟩ := trod5 h2
        have e0 := hcell 0 (by omega)
        rw [show ∀ x : Addr, x.add 0 = x from fun x => by simp [Addr.add]] at e0
        exact ⟨⟨⟨a, b', c, d'⟩, k'⟩, e0, hcell 1 (by omega), hcell 2 (by omega), hcell 3 (by omega), hcell 4 (by omega)⟩
    have hspot : spot = none := by
      obtain ⟨z, hz, _⟩ := cells 0 (by omega)
      simpa [Addr.add] using World.cell?_spot hz
    subst hspot
    haveI : Inhabited Nm := ⟨N0⟩
    obtain ⟨f, hf⟩ := Go.Deep.choose_lt cells
    refine ⟨b, o, len, cap, f, rfl, by unfold maxLen at hm; omega, ?_⟩
    intro i hi
    have := hf i hi
    simp only [Addr.add_lit] at this
    exact this
end Go.Proofs.Ythbbknpkoaobmaa

namespace Go.Proofs.Ythbbknpkoaobmaa
open Go.RowKit Amp Go.ChangeShapes
set_option maxRecDepth 100000 in
theorem structItem : ∃ f g h k : Field, Try.prog.underlying 61 = some (.struct #[f, g, h, k]) ∧ f.type = 3 ∧ f.offset = 0 ∧ g.type = 3 ∧ g.offset = 1 ∧ h.type = 3 ∧ h.offset = 2 ∧ k.type = 9 ∧ k.offset = 3 := ⟨_, _, _, _, Try.underlying61, rfl, rfl, rfl, rfl, rfl, rfl, rfl, rfl⟩
set_option maxRecDepth 100000 in
theorem trodItem {H : Type} {enc : TypeId × Value → H} {w : World} {base fuel : Nat} {spare : Nat → Bool} {held : Bool} {c0 c1 c2 c3 : Value} {x : DataW H × List MemPlace}
    (h : DataW.trod enc Try.prog w base spare held fuel 61 [c0, c1, c2, c3] = some x) :
    ∃ z : It, c0 = .int .i64 z.kind ∧ c1 = .int .i64 z.at' ∧ c2 = .int .i64 z.n ∧ c3 = .string z.name ∧ z.name.size ≤ maxLen ∧ rng z.kind ∧ rng z.at' ∧ rng z.n := by
  obtain ⟨f, g, hh, k, hu, f1, f2, g1, g2, h1, h2, k1, k2⟩ := structItem
  obtain ⟨xs, n, _, _, _, hlen, hf⟩ := DataW.trod_struct hu h
  have e1 : Try.prog.cellsOf 3 = 1 := by kernel_rfl
  have e2 : Try.prog.cellsOf 9 = 1 := by kernel_rfl
  match xs, hlen with
  | [y0, y1, y2, y3], _ =>
    have q0 := hf 0 f rfl
    have q1 := hf 1 g rfl
    have q2 := hf 2 hh rfl
    have q3 := hf 3 k rfl
    rw [f1, f2, e1] at q0
    rw [g1, g2, e1] at q1
    rw [h1, h2, e1] at q2
    rw [k1, k2, e2] at q3
    obtain ⟨a, p0, _, w0⟩ := DataW.trod_int Try.underlying3 (show DataW.trod enc Try.prog w base spare held n 3 [c0] = some y0 from q0)
    obtain ⟨b, p1, _, w1⟩ := DataW.trod_int Try.underlying3 (show DataW.trod enc Try.prog w base spare held n 3 [c1] = some y1 from q1)
    obtain ⟨c, p2, _, w2⟩ := DataW.trod_int Try.underlying3 (show DataW.trod enc Try.prog w base spare held n 3 [c2] = some y2 from q2)
    obtain ⟨d, p3, _, w3⟩ := DataW.trod_string Try.underlying9 (show DataW.trod enc Try.prog w base spare held n 9 [c3] = some y3 from q3)
    simp only [List.cons.injEq, and_true] at p0 p1 p2 p3
    exact ⟨⟨a, b, c, d⟩, p0, p1, p2, p3, w3, rng_of w0, rng_of w1, rng_of w2⟩
set_option maxRecDepth 100000 in
theorem open_items {H : Type} {enc : TypeId × Value → H} {w : World} {r : Reach} {base b0 : Nat} {spare : Nat → Bool} {held : Bool} {v : Value} {d : DataW H} {p : List MemPlace}
    (hv : Value.okWide Try.prog w r b0 22 v) (h : DataW.Trod enc Try.prog w base spare held 22 v d p) :
    ∃ (ao : Option Addr) (n cap : Nat) (f : Nat → It), v = .slice ao n cap ∧ n ≤ 9223372036854775807 ∧ Its w ao n f := by
  obtain ⟨ao, len, cap, rfl⟩ := Go.WideShapes.okWide_slice Try.underlying22 hv
  obtain ⟨fuel, hf⟩ := h
  have c5 : Try.prog.cellsOf 61 = 4 := by kernel_rfl
  rcases Go.Deep.open_slice Try.underlying22 (show DataW.trod enc Try.prog w base spare held fuel 22 [.slice ao len cap] = some (d, p) from hf) with ⟨h0, _⟩ | ⟨a, len', cap', m, k, D, Pl, hcs, _, hl, hm, hmm, _, hx⟩
  · simp only [List.cons.injEq, Value.slice.injEq, and_true] at h0
    exact ⟨ao, 0, cap, fun _ => ⟨0, 0, 0, ⟨#[]⟩⟩, by rw [h0.2.1], by omega, fun h => absurd h (by omega)⟩
  · simp only [List.cons.injEq, Value.slice.injEq, and_true] at hcs
    obtain ⟨rfl, rfl, rfl⟩ := hcs
    by_cases h0 : len = 0
    · subst h0
      exact ⟨_, 0, cap, fun _ => ⟨0, 0, 0, ⟨#[]⟩⟩, rfl, by omega, fun h => absurd h (by omega)⟩
    have hlm : len ≤ m := by rw [hmm]; split <;> omega
    obtain ⟨b, o, spot⟩ := a
    have cells : ∀ i, i < len → ∃ z : It, w.cell? ((⟨b, o, spot⟩ : Addr).add (i * 4)) = some (.int .i64 z.kind) ∧ w.cell? (((⟨b, o, spot⟩ : Addr).add (i * 4)).add 1) = some (.int .i64 z.at') ∧ w.cell? (((⟨b, o, spot⟩ : Addr).add (i * 4)).add 2) = some (.int .i64 z.n) ∧ w.cell? (((⟨b, o, spot⟩ : Addr).add (i * 4)).add 3) = some (.string z.name) ∧ z.name.size ≤ maxLen := by
      intro i hi
      obtain ⟨cs', h1, h2⟩ := hx i (by omega)
      rw [c5] at h1
      obtain ⟨_, hlen, hcell⟩ := World.cells?_some h1
      match cs', hlen with
      | [v0, v1, v2, v3], _ =>
        obtain ⟨z, rfl, rfl, rfl, rfl, hz, _⟩ := trodItem h2
        have e0 := hcell 0 (by omega)
        rw [show ∀ x : Addr, x.add 0 = x from fun x => by simp [Addr.add]] at e0
        exact ⟨z, e0, hcell 1 (by omega), hcell 2 (by omega), hcell 3 (by omega), hz⟩
    have hspot : spot = none := by
      obtain ⟨z, hz, _⟩ := cells 0 (by omega)
      simpa [Addr.add] using World.cell?_spot hz
    subst hspot
    haveI : Inhabited It := ⟨⟨0, 0, 0, ⟨#[]⟩⟩⟩
    obtain ⟨f, hf⟩ := Go.Deep.choose_lt cells
    refine ⟨_, len, cap, f, rfl, by unfold maxLen at hm; omega, fun _ => ⟨b, o, rfl, ?_⟩⟩
    intro i hi
    have := hf i hi
    simp only [Addr.add_lit] at this
    exact this
end Go.Proofs.Ythbbknpkoaobmaa
