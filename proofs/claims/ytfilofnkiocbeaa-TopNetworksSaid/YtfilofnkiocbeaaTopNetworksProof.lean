import Derived.Test.YtfilofnkiocbeaaRk8
import Derived.Test.YtfilofnkiocbeaaNkm
namespace Go.Proofs.Ytfilofnkiocbeaa
open Go.ChangeShapes Go.WideShapes Go.ChangeAt Go.RowKit Go.Joins
theorem arr6 {α : Type} {cs : Array α} (h : cs.size = 6) : ∃ c0 c1 c2 c3 c4 c5, cs = #[c0, c1, c2, c3, c4, c5] := by
  obtain ⟨l⟩ := cs
  match l, h with
  | [c0, c1, c2, c3, c4, c5], _ => exact ⟨c0, c1, c2, c3, c4, c5, rfl⟩
set_option maxRecDepth 100000 in
theorem trodU6 {H : Type} {enc : TypeId × Value → H} {w : World} {base fuel : Nat} {spare : Nat → Bool} {held : Bool} {c0 c1 c2 c3 c4 c5 : Value} {x : DataW H × List MemPlace}
    (h : DataW.trod enc Try.prog w base spare held fuel 51 [c0, c1, c2, c3, c4, c5] = some x) :
    ∃ K : Nat → Int, c0 = .int .u8 (K 0) ∧ c1 = .int .u8 (K 1) ∧ c2 = .int .u8 (K 2) ∧ c3 = .int .u8 (K 3) ∧ c4 = .int .u8 (K 4) ∧ c5 = .int .u8 (K 5) ∧ ∀ j, j < 6 → 0 ≤ K j ∧ K j ≤ 255 := by
  obtain ⟨xs, m, _, _, _, hl, hel⟩ := DataW.trod_array Try.underlying51 h
  have c3' : Try.prog.cellsOf 5 = 1 := by kernel_rfl
  rw [c3'] at hel
  match xs, hl with
  | [x0, x1, x2, x3, x4, x5], _ =>
    obtain ⟨a0, h0, _, w0⟩ := DataW.trod_int Try.underlying5 (show DataW.trod enc Try.prog w base spare held m 5 [c0] = some x0 from hel 0 (by decide))
    obtain ⟨a1, h1, _, w1⟩ := DataW.trod_int Try.underlying5 (show DataW.trod enc Try.prog w base spare held m 5 [c1] = some x1 from hel 1 (by decide))
    obtain ⟨a2, h2, _, w2⟩ := DataW.trod_int Try.underlying5 (show DataW.trod enc Try.prog w base spare held m 5 [c2] = some x2 from hel 2 (by decide))
    obtain ⟨a3, h3, _, w3⟩ := DataW.trod_int Try.underlying5 (show DataW.trod enc Try.prog w base spare held m 5 [c3] = some x3 from hel 3 (by decide))
    obtain ⟨a4, h4, _, w4⟩ := DataW.trod_int Try.underlying5 (show DataW.trod enc Try.prog w base spare held m 5 [c4] = some x4 from hel 4 (by decide))
    obtain ⟨a5, h5, _, w5⟩ := DataW.trod_int Try.underlying5 (show DataW.trod enc Try.prog w base spare held m 5 [c5] = some x5 from hel 5 (by decide))
    simp only [List.cons.injEq, and_true] at h0 h1 h2 h3 h4 h5
    refine ⟨fun j => [a0, a1, a2, a3, a4, a5].getD j 0, h0, h1, h2, h3, h4, h5, fun j hj => ?_⟩
    have : j = 0 ∨ j = 1 ∨ j = 2 ∨ j = 3 ∨ j = 4 ∨ j = 5 := by omega
    rcases this with rfl | rfl | rfl | rfl | rfl | rfl
    · exact bounds_u8 w0
    · exact bounds_u8 w1
    · exact bounds_u8 w2
    · exact bounds_u8 w3
    · exact bounds_u8 w4
    · exact bounds_u8 w5
set_option maxRecDepth 100000 in
/-- An argument [6]uint8 as data. -/
theorem open_u6 {H : Type} {enc : TypeId × Value → H} {w : World} {r : Reach} {base b0 : Nat} {spare : Nat → Bool} {held : Bool} {v : Value} {d : DataW H} {p : List MemPlace}
    (hv : Value.okWide Try.prog w r b0 51 v) (h : DataW.Trod enc Try.prog w base spare held 51 v d p) :
    ∃ K : Nat → Int, v = .agg #[.int .u8 (K 0), .int .u8 (K 1), .int .u8 (K 2), .int .u8 (K 3), .int .u8 (K 4), .int .u8 (K 5)] ∧ ∀ j, j < 6 → 0 ≤ K j ∧ K j ≤ 255 := by
  obtain ⟨cs, rfl, hsz⟩ := okWide_array Try.underlying51 hv
  obtain ⟨c0, c1, c2, c3, c4, c5, rfl⟩ := arr6 (hsz.trans (show Try.prog.cellsOf 51 = 6 by kernel_rfl))
  obtain ⟨fuel, hf⟩ := h
  obtain ⟨K, rfl, rfl, rfl, rfl, rfl, rfl, hK⟩ := trodU6 (show DataW.trod enc Try.prog w base spare held fuel 51 [c0, c1, c2, c3, c4, c5] = some (d, p) from hf)
  exact ⟨K, rfl, hK⟩
end Go.Proofs.Ytfilofnkiocbeaa

/-
  TopNetworks, proved: for every list and all six small numbers that can be read as data, the Go function photonmeshtop.TopNetworks returns true: settings are found for every permutation and their mirror sends the light back, over all permutations of 4 the ways add up to all settings that agree with the stuck switches, and Lost counts those that have none; nothing that came in is changed. No conditions beside the row's own.
-/
namespace Go.Proofs.Ytfilofnkiocbeaa
open Go.ChangeShapes Go.WideShapes Go.ChangeAt Go.RowKit Go.Joins

set_option maxRecDepth 100000 in
theorem topNetworks_lifted (os : Os) (started : os.Started) (H : Type) (enc : TypeId × Value → H) :
    ReturnsInHanded {} Try.checked os 16 .any (Rows.topNetworksSpec.pre6 enc Try.checked.prog Try.f16 [] false) (Rows.topNetworksSpec.post enc Try.checked.prog Try.f16 false true false false) := by
  refine law_lifted started Try.func16 (by kernel_rfl)
    (ChangeSpec.witness6 (enc := enc) (C := Try.checked) false ⟨#[], #[.slice none 0 0, .agg #[.int .u8 0, .int .u8 0, .int .u8 0, .int .u8 0, .int .u8 0, .int .u8 0]], []⟩ 8 (by kernel_rfl) (by kernel_rfl) (by kernel_rfl) (by kernel_rfl))
    rfl rfl (by rw [Try.params16]; decide +kernel) ?_ ?_
  · intro ds hd
    rw [Try.params16] at hd
    obtain ⟨d0, d1, rfl⟩ := len_two hd
    rfl
  · intro W base args ds ps hA hval
    rw [Try.params16] at hA hval
    obtain ⟨v0, r0, _, _, _, _, rfl, h0, hA⟩ := ta_cons hA
    obtain ⟨v1, r1, _, _, _, _, rfl, h1, hA⟩ := ta_cons hA
    obtain rfl := ta_nil hA
    obtain ⟨ao0, n0, cap0, f0, rfl, ⟨hp0, hq0⟩, hc0⟩ := open_is h0 (slice_wide (hval 0 28 _ rfl rfl))
    have hn0 := Nat.le_trans hp0 hq0
    obtain ⟨K1, rfl, hK1⟩ := open_u6 (hval 1 51 _ rfl rfl) h1
    exact TopNetworks_any n0 cap0 ao0 f0 K1 W hn0 hc0 hK1

theorem topNetworks_holds : Rows.TopNetworksSaid :=
  OpenClaim.holds_of_wide 16 Try.f16 rfl rfl rfl rfl rfl rfl rfl ⟨rfl, rfl, rfl, rfl, rfl⟩ rfl rfl rfl rfl rfl (by kernel_rfl) Try.func16 (by kernel_rfl)
    (of_decide_eq_true (by kernel_rfl)) (by unfold Func.isWrapper; rw [if_neg (of_decide_eq_false (by kernel_rfl))]; exact ⟨rfl, rfl⟩)
    (fun os started H enc _ => topNetworks_lifted os started H enc)
#print axioms topNetworks_holds
end Go.Proofs.Ytfilofnkiocbeaa
