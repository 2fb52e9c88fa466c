import Derived.Test.YtkkcnhhfdicppaaRk7
import Derived.SizedLaws
namespace Go.Proofs.Ytkkcnhhfdicppaa
open Go.ChangeShapes Go.WideShapes Go.ChangeAt Go.RowKit Go.Joins
theorem ta_cons_w {H : Type} {enc : TypeId × Value → H} {P : Program} {w : World} {base : Nat} {sp : Nat → Bool} {held : Bool} {t : TypeId} {ts : List TypeId} {vs : List Value} {ds : List (DataW H)} {ps : List MemPlace}
    (h : DataW.TrodAll enc P w base sp held (t :: ts) vs ds ps) : ∃ v vs' d p q ds', vs = v :: vs' ∧ ds = d :: ds' ∧ DataW.Trod enc P w base sp held t v d p ∧ DataW.TrodAll enc P w base sp held ts vs' ds' q := by
  cases vs with
  | nil => cases ds <;> simp [DataW.TrodAll] at h
  | cons v vs =>
    cases ds with
    | nil => simp [DataW.TrodAll] at h
    | cons d ds =>
      obtain ⟨p, q, h1, h2, _⟩ := h
      exact ⟨v, vs, d, p, q, ds, rfl, rfl, h1, h2⟩
set_option maxRecDepth 100000 in
/-- THE ROW OF A LAW, out of the walk: it returns true and makes new memory alone. -/
theorem law_lifted_sized {H : Type} {enc : TypeId × Value → H} {os : Os} (started : os.Started) {F : FuncId} {fF : Func} {s : ChangeSpec} (hfn : Try.prog.funcs[F]? = some fF) (noInit : Try.prog.inits.idxOf? F = none)
    (witness : ∃ (w : World) (tape : Tape) (i : Input), w.os = os ∧ (w.forCall tape i).Shaped Try.checked.prog ∧ i.vars = [] ∧ Input.okWide Try.checked.prog (w.forCall tape i) .any w.heap.size F i ∧
      s.pre6 enc Try.checked.prog fF [] false (w.forCall tape i).memory i.args ∧ ({} : Assume).holds Try.checked.prog (lone (Frame.enter Try.checked.prog F i.args .normal) [] (w.forCall tape i)))
    (hv : s.vars = []) (hres : fF.resultTypes = #[4]) (hts : ∀ t ∈ fF.params.toList, Try.prog.readableRec t = true ∧ t < Try.prog.types.size)
    (hs : ∀ ds : List (DataW H), ds.length = fF.params.toList.length → s.fn H ds = { results := [.lit (.bool true)], args := ds })
    (walk : ∀ (W : World) (base : Nat) (args : List Value) (ds : List (DataW H)) (ps : List MemPlace), DataW.TrodAll enc Try.prog W 0 (fun _ => true) true fF.params.toList args ds ps →
      (∀ (j : Nat) t v, fF.params[j]? = some t → args[j]? = some v → Value.okWide Try.prog W .any base t v) → (∃ (vt : List TypeId) (gs : List (DataW H)), (DataW.weightsEach Try.prog (fF.params.toList ++ vt) (ds ++ gs)).all (· ≤ reachBytes) = true) → Calls Try.prog F args.toArray W fun e w' => e = .returned (.bool true) ∧ Below W.heap.size W w') :
    ReturnsInHanded {} Try.checked os F .any (s.pre6 enc Try.checked.prog fF [] false) (s.post enc Try.checked.prog fF false true false false) := by
  refine returnsInHanded_of_change_sized (C := Try.checked) own started noInit hfn witness ?_
  intro W base args ds gs before hval0 hW _ hsz0 _
  have hval : ∀ (j : Nat) t v, fF.params[j]? = some t → args.toList[j]? = some v → Value.okWide Try.prog W .any base t v := fun j t v h1 h2 => hval0 j t v h1 (by simpa using h2)
  have hW' := hW
  obtain ⟨p, q, hA0, hV, rfl, _, _⟩ := hW
  have hA : DataW.TrodAll enc Try.prog W 0 (fun _ => true) true fF.params.toList args.toList ds p := hA0
  rw [hv] at hV
  obtain ⟨rfl, rfl⟩ := trodVars_none hV
  have hlen : ∀ {ts : List TypeId} {vs : List Value} {ds : List (DataW H)} {ps : List MemPlace}, DataW.TrodAll enc Try.prog W 0 (fun _ => true) true ts vs ds ps → ds.length = ts.length := by
    intro ts
    induction ts with
    | nil => intro vs ds ps h; cases vs <;> cases ds <;> simp_all [DataW.TrodAll]
    | cons t ts ih =>
      intro vs ds ps h
      match vs, ds, h with
      | v :: vs, d :: ds, ⟨p, q, _, h2, _⟩ => simp [ih h2]
  have hfn := hs ds (hlen hA)
  have hlt : ∀ x ∈ p, x.block < W.heap.size := fun x hx => by simpa using hW'.lt x (by simpa using hx)
  have hcall := walk W base args.toList ds p hA hval ⟨_, _, hsz0⟩
  rw [Array.toArray_toList] at hcall
  refine Calls.mono hcall ?_
  rintro e W' ⟨rfl, hb⟩
  refine ⟨_, rfl, ds, [], p ++ [], [], p, [], hW', ?_, ?_, ?_, hb.frame _, fun h => by cases h⟩
  · show DataW.TrodAll enc Try.prog W' _ _ _ fF.resultTypes.toList ((Value.bool true).resultList fF.resultTypes.size) (s.fn H (ds ++ [])).results []
    rw [List.append_nil, hfn, hres]
    exact trodAll_mk1 (shut_bool Try.underlying4 _)
  · show DataW.TrodAll enc Try.prog W' _ _ _ fF.params.toList args.toList (s.fn H (ds ++ [])).args p
    rw [List.append_nil, hfn]
    exact trodAll_below laidOut hb hts hlt hA
  · show DataW.TrodVars enc Try.prog W' _ s.vars (s.fn H (ds ++ [])).vars []
    rw [List.append_nil, hfn, hv]
    rfl

set_option maxRecDepth 100000 in
theorem trod_xys_w {H : Type} {enc : TypeId × Value → H} {w : World} {base fuel : Nat} {spare : Nat → Bool} {held : Bool} {v : Value} {x : DataW H × List MemPlace}
    (hf : DataW.trod enc Try.prog w base spare held fuel 22 [v] = some x) : ∃ (ao : Option Addr) (n cap : Nat) (X Y : Nat → Int), v = .slice ao n cap ∧ n ≤ 9223372036854775807 ∧ XYs w ao n X Y ∧ (n = 0 ∨ ∃ el sp, x.1 = .slice el sp ∧ el.length = n) ∧ (ao = none → n = 0 ∧ cap = 0) := by
  have c5 : Try.prog.cellsOf 26 = 2 := by kernel_rfl
  rcases Go.Deep.open_slice Try.underlying22 hf with ⟨h0, _⟩ | ⟨a, len, cap, m, k, D, Pl, hcs, _, hl, hm, hmm, hxe, hx⟩
  · simp only [List.cons.injEq, and_true] at h0
    exact ⟨none, 0, 0, fun _ => 0, fun _ => 0, h0, by omega, fun h => absurd h (by omega), Or.inl rfl, fun _ => ⟨rfl, rfl⟩⟩
  · simp only [List.cons.injEq, and_true] at hcs
    by_cases h0 : len = 0
    · subst h0
      exact ⟨_, 0, cap, fun _ => 0, fun _ => 0, hcs, by omega, fun h => absurd h (by omega), Or.inl rfl, fun h => by cases h⟩
    have hlm : len ≤ m := by rw [hmm]; split <;> omega
    obtain ⟨b, o, spot⟩ := a
    have cells : ∀ i, i < len → ∃ z : Int × Int, w.cell? ((⟨b, o, spot⟩ : Addr).add (i * 2)) = some (.int .i64 z.1) ∧ w.cell? (((⟨b, o, spot⟩ : Addr).add (i * 2)).add 1) = some (.int .i64 z.2) := by
      intro i hi
      obtain ⟨cs', h1, h2⟩ := hx i (by omega)
      rw [c5] at h1
      obtain ⟨_, hlen, hcell⟩ := World.cells?_some h1
      match cs', hlen with
      | [v0, v1], _ =>
        obtain ⟨x, y, rfl, rfl⟩ := trodXY h2
        have e0 := hcell 0 (by omega)
        rw [show ∀ x : Addr, x.add 0 = x from fun x => by simp [Addr.add]] at e0
        exact ⟨⟨x, y⟩, e0, hcell 1 (by omega)⟩
    have hspot : spot = none := by
      obtain ⟨z, hz, _⟩ := cells 0 (by omega)
      simpa [Addr.add] using World.cell?_spot hz
    subst hspot
    obtain ⟨f, hf⟩ := Go.Deep.choose_lt cells
    refine ⟨_, len, cap, fun i => (f i).1, fun i => (f i).2, hcs, by unfold maxLen at hm; omega, fun _ => ⟨b, o, rfl, ?_⟩, Or.inr ⟨_, _, by rw [hxe], by simp⟩, fun h => by cases h⟩
    intro i hi
    have := hf i hi
    simp only [Addr.add_lit] at this
    exact this
set_option maxRecDepth 100000 in
theorem trodGrid_w {H : Type} {enc : TypeId × Value → H} {w : World} {base fuel : Nat} {spare : Nat → Bool} {held : Bool} {c0 c1 c2 c3 c4 : Value} {x : DataW H × List MemPlace}
    (h : DataW.trod enc Try.prog w base spare held fuel 24 [c0, c1, c2, c3, c4] = some x) :
    ∃ (W H M B : Int) (ao : Option Addr) (n cap : Nat) (X Y : Nat → Int), c0 = .int .i64 W ∧ c1 = .int .i64 H ∧ c2 = .int .i64 M ∧ c3 = .int .i64 B ∧ c4 = .slice ao n cap ∧ n ≤ 9223372036854775807 ∧ XYs w ao n X Y ∧ (n = 0 ∨ ∃ p0 p1 p2 p3 el sp, x.1 = .agg [p0, p1, p2, p3, .slice el sp] ∧ el.length = n) ∧ (ao = none → n = 0 ∧ cap = 0) := by
  obtain ⟨f, g, hh, i, j, hu, ⟨f1, f2⟩, ⟨g1, g2⟩, ⟨h1', h2'⟩, ⟨i1, i2⟩, j1, j2⟩ := gridDesc
  obtain ⟨xs, n, _, hxe, _, hlen, hf⟩ := DataW.trod_struct hu h
  have e1 : Try.prog.cellsOf 3 = 1 := by kernel_rfl
  have e2 : Try.prog.cellsOf 22 = 1 := by kernel_rfl
  match xs, hlen with
  | [y0, y1, y2, y3, y4], _ =>
    have h0 := hf 0 f rfl
    have h1 := hf 1 g rfl
    have h2 := hf 2 hh rfl
    have h3 := hf 3 i rfl
    have h4 := hf 4 j rfl
    rw [f1, f2, e1] at h0
    rw [g1, g2, e1] at h1
    rw [h1', h2', e1] at h2
    rw [i1, i2, e1] at h3
    rw [j1, j2, e2] at h4
    obtain ⟨a, q0, _, _⟩ := DataW.trod_int Try.underlying3 (show DataW.trod enc Try.prog w base spare held n 3 [c0] = some y0 from h0)
    obtain ⟨b, q1, _, _⟩ := DataW.trod_int Try.underlying3 (show DataW.trod enc Try.prog w base spare held n 3 [c1] = some y1 from h1)
    obtain ⟨c, q2, _, _⟩ := DataW.trod_int Try.underlying3 (show DataW.trod enc Try.prog w base spare held n 3 [c2] = some y2 from h2)
    obtain ⟨d, q3, _, _⟩ := DataW.trod_int Try.underlying3 (show DataW.trod enc Try.prog w base spare held n 3 [c3] = some y3 from h3)
    obtain ⟨ao, m, cap, X, Y, q4, hm, hX, hD, hnil⟩ := trod_xys_w (show DataW.trod enc Try.prog w base spare held n 22 [c4] = some y4 from h4)
    simp only [List.cons.injEq, and_true] at q0 q1 q2 q3
    refine ⟨a, b, c, d, ao, m, cap, X, Y, q0, q1, q2, q3, q4, hm, hX, hD.imp id ?_, hnil⟩
    rintro ⟨el, sp, he, hl⟩
    exact ⟨y0.1, y1.1, y2.1, y3.1, el, sp, by rw [hxe]; simp [he], hl⟩
set_option maxRecDepth 100000 in
/-- An argument api.Grid as data. -/
theorem open_grid_w {H : Type} {enc : TypeId × Value → H} {w : World} {r : Reach} {base b0 : Nat} {spare : Nat → Bool} {held : Bool} {v : Value} {d : DataW H} {p : List MemPlace}
    (hv : Value.okWide Try.prog w r b0 24 v) (h : DataW.Trod enc Try.prog w base spare held 24 v d p) {ts : List TypeId} {ds : List (DataW H)} (hrch : (DataW.weightsEach Try.prog ts ds).all (· ≤ reachBytes) = true) (ht : ts[0]? = some 24) (hd : ds[0]? = some d) :
    ∃ (W H M B : Int) (ao : Option Addr) (n cap : Nat) (X Y : Nat → Int), v = .agg #[.int .i64 W, .int .i64 H, .int .i64 M, .int .i64 B, .slice ao n cap] ∧ n ≤ 9223372036854775807 ∧ XYs w ao n X Y ∧ n * 16 ≤ 140737488351232 ∧ (ao = none → n = 0 ∧ cap = 0) := by
  obtain ⟨f, g, hh, i, j, hu, _⟩ := gridDesc
  obtain ⟨cs, rfl, hsz⟩ := okWide_str hu hv
  have h5 : cs.size = 5 := hsz.trans (show Try.prog.cellsOf 24 = 5 by kernel_rfl)
  obtain ⟨c0, c1, c2, c3, c4, rfl⟩ := array5 h5
  obtain ⟨fuel, hf⟩ := h
  obtain ⟨W, H, M, B, ao, n, cap, X, Y, rfl, rfl, rfl, rfl, rfl, hn, hX, hD, hnil⟩ := trodGrid_w (show DataW.trod enc Try.prog w base spare held fuel 24 [c0, c1, c2, c3, c4] = _ from hf)
  refine ⟨W, H, M, B, ao, n, cap, X, Y, rfl, hn, hX, ?_, hnil⟩
  rcases hD with h0 | ⟨p0, p1, p2, p3, el, sp, he, hl⟩
  · omega
  · simp only at he
    subst he
    have hb : Try.prog.bytesOf 26 = 16 := by kernel_rfl
    have hm : (el.length + sp.length) * 16 ∈ DataW.weights Try.prog 24 (.agg [p0, p1, p2, p3, .slice el sp]) := by
      have h1 : (el.length + sp.length) * 16 ∈ DataW.weights Try.prog 22 (.slice el sp) := by
        simp [DataW.weights, Try.underlying22, hb]
      simp only [DataW.weights, Try.underlying24]
      exact DataW.weights_mem_each (j := 4) rfl rfl _ h1
    have h2 := List.all_eq_true.1 hrch _ (DataW.weights_mem_each ht hd _ hm)
    have h3 : (el.length + sp.length) * 16 ≤ reachBytes := by simpa using h2
    unfold reachBytes at h3
    omega
end Go.Proofs.Ytkkcnhhfdicppaa
