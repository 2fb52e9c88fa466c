import Derived.Test.YtilclpldfoifkaaRow5
namespace Go.Proofs.Ytilclpldfoifkaa
open Go.ChangeShapes Go.WideShapes Go.ChangeAt Go.RowKit Go.Joins
theorem arr16 {α : Type} {cs : Array α} (h : cs.size = 16) : ∃ v0 v1 v2 v3 v4 v5 v6 v7 v8 v9 v10 v11 v12 v13 v14 v15, cs = #[v0, v1, v2, v3, v4, v5, v6, v7, v8, v9, v10, v11, v12, v13, v14, v15] := by
  obtain ⟨l⟩ := cs
  match l, h with
  | [v0, v1, v2, v3, v4, v5, v6, v7, v8, v9, v10, v11, v12, v13, v14, v15], _ => exact ⟨v0, v1, v2, v3, v4, v5, v6, v7, v8, v9, v10, v11, v12, v13, v14, v15, rfl⟩
theorem portDesc : ∃ f : Field, Try.prog.underlying 49 = some (.struct #[f]) ∧ f.type = 47 ∧ f.offset = 0 := ⟨_, Try.underlying49, rfl, rfl⟩
set_option maxRecDepth 100000 in
theorem trodRow {H : Type} {enc : TypeId × Value → H} {w : World} {base fuel : Nat} {spare : Nat → Bool} {held : Bool} {v0 v1 v2 v3 v4 v5 v6 v7 : Value} {x : DataW H × List MemPlace}
    (h : DataW.trod enc Try.prog w base spare held fuel 46 [v0, v1, v2, v3, v4, v5, v6, v7] = some x) :
    ∃ a0 b0 c0 d0 a1 b1 c1 d1 : Int, v0 = .int .i64 a0 ∧ v1 = .int .i64 b0 ∧ v2 = .int .i64 c0 ∧ v3 = .int .i64 d0 ∧ v4 = .int .i64 a1 ∧ v5 = .int .i64 b1 ∧ v6 = .int .i64 c1 ∧ v7 = .int .i64 d1 := by
  obtain ⟨xs, m, _, _, _, hl, hel⟩ := DataW.trod_array Try.underlying46 h
  have c4' : Try.prog.cellsOf 25 = 4 := by kernel_rfl
  rw [c4'] at hel
  match xs, hl with
  | [x0, x1], _ =>
    obtain ⟨a0, b0, c0, d0, h0, h1, h2, h3, _⟩ := trodRect (show DataW.trod enc Try.prog w base spare held m 25 [v0, v1, v2, v3] = some x0 from hel 0 (by decide))
    obtain ⟨a1, b1, c1, d1, h4, h5, h6, h7, _⟩ := trodRect (show DataW.trod enc Try.prog w base spare held m 25 [v4, v5, v6, v7] = some x1 from hel 1 (by decide))
    exact ⟨a0, b0, c0, d0, a1, b1, c1, d1, h0, h1, h2, h3, h4, h5, h6, h7⟩
set_option maxRecDepth 100000 in
theorem open_port {H : Type} {enc : TypeId × Value → H} {w : World} {r : Reach} {base b0' : Nat} {spare : Nat → Bool} {held : Bool} {v : Value} {d : DataW H} {p : List MemPlace}
    (hv : Value.okWide Try.prog w r b0' 49 v) (h : DataW.Trod enc Try.prog w base spare held 49 v d p) :
    ∃ a0 b0 c0 d0 a1 b1 c1 d1 a2 b2 c2 d2 a3 b3 c3 d3 : Int, v = .agg #[.int .i64 a0, .int .i64 b0, .int .i64 c0, .int .i64 d0, .int .i64 a1, .int .i64 b1, .int .i64 c1, .int .i64 d1, .int .i64 a2, .int .i64 b2, .int .i64 c2, .int .i64 d2, .int .i64 a3, .int .i64 b3, .int .i64 c3, .int .i64 d3] := by
  obtain ⟨f, hu, f1, f2⟩ := portDesc
  obtain ⟨cs, rfl, hsz⟩ := okWide_str hu hv
  obtain ⟨v0, v1, v2, v3, v4, v5, v6, v7, v8, v9, v10, v11, v12, v13, v14, v15, rfl⟩ := arr16 (hsz.trans (show Try.prog.cellsOf 49 = 16 by kernel_rfl))
  obtain ⟨fuel, hf⟩ := h
  obtain ⟨xs, n, _, _, _, hlen, hff⟩ := DataW.trod_struct hu (show DataW.trod enc Try.prog w base spare held fuel 49 [v0, v1, v2, v3, v4, v5, v6, v7, v8, v9, v10, v11, v12, v13, v14, v15] = _ from hf)
  have e16 : Try.prog.cellsOf 47 = 16 := by kernel_rfl
  match xs, hlen with
  | [y0], _ =>
    have h0 := hff 0 f rfl
    rw [f1, f2, e16] at h0
    have h0' : DataW.trod enc Try.prog w base spare held n 47 [v0, v1, v2, v3, v4, v5, v6, v7, v8, v9, v10, v11, v12, v13, v14, v15] = some y0 := h0
    obtain ⟨zs, m, _, _, _, hl, hel⟩ := DataW.trod_array Try.underlying47 h0'
    have c8' : Try.prog.cellsOf 46 = 8 := by kernel_rfl
    rw [c8'] at hel
    match zs, hl with
    | [x0, x1], _ =>
      obtain ⟨a0, b0, c0, d0, a1, b1, c1, d1, rfl, rfl, rfl, rfl, rfl, rfl, rfl, rfl⟩ := trodRow (show DataW.trod enc Try.prog w base spare held m 46 [v0, v1, v2, v3, v4, v5, v6, v7] = some x0 from hel 0 (by decide))
      obtain ⟨a2, b2, c2, d2, a3, b3, c3, d3, rfl, rfl, rfl, rfl, rfl, rfl, rfl, rfl⟩ := trodRow (show DataW.trod enc Try.prog w base spare held m 46 [v8, v9, v10, v11, v12, v13, v14, v15] = some x1 from hel 1 (by decide))
      exact ⟨a0, b0, c0, d0, a1, b1, c1, d1, a2, b2, c2, d2, a3, b3, c3, d3, rfl⟩
end Go.Proofs.Ytilclpldfoifkaa
