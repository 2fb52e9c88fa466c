/-
  HeatMore, proved: for every bank with a list of phases and one of powers, and every three small numbers, that can be read as data, the Go function photonmeshlaw06.HeatMore returns true: more power on one heater turns each guide by its gain, without power there is the base alone, and a greater slack or top never makes the cheapest powers dearer; nothing that came in is changed. No conditions beside the row's own.
-/
import Derived.Test.YtldepffpafccpaaRh
import Derived.Test.YtldepffpafccpaaMo6
import Derived.Test.YtldepffpafccpaaRh3
namespace Go.Proofs.Ytldepffpafccpaa
open Go.ChangeShapes Go.WideShapes Go.ChangeAt Go.RowKit Go.Joins

set_option maxRecDepth 100000 in
theorem heatMore_lifted (os : Os) (started : os.Started) (H : Type) (enc : TypeId × Value → H) :
    ReturnsInHanded {} Try.checked os 12 .any (Rows.heatMoreSpec.pre6 enc Try.checked.prog Try.f12 [] false) (Rows.heatMoreSpec.post enc Try.checked.prog Try.f12 false true false false) := by
  refine law_lifted started Try.func12 (by kernel_rfl)
    (ChangeSpec.witness6 (enc := enc) (C := Try.checked) false ⟨#[], #[.agg #[.slice none 0 0, .slice none 0 0, .slice none 0 0], .agg #[.int .u8 0, .int .u8 0, .int .u8 0]], []⟩ 8 (by kernel_rfl) (by kernel_rfl) (by kernel_rfl) (by kernel_rfl))
    rfl rfl (by rw [Try.params12]; decide +kernel) ?_ ?_
  · intro ds hd
    rw [Try.params12] at hd
    obtain ⟨d0, d1, rfl⟩ := len_two hd
    rfl
  · intro W base args ds ps hA hval
    rw [Try.params12] at hA hval
    obtain ⟨v0, r0, _, _, _, _, rfl, h0, hA⟩ := ta_cons hA
    obtain ⟨v1, r1, _, _, _, _, rfl, h1, hA⟩ := ta_cons hA
    obtain rfl := ta_nil hA
    obtain ⟨ao0, N0, cap0, A0, l0, c0, F0, bo0, m0, dap0, B0, co0, k0, fap0, C0, rfl, hn0, hm0, hk0, hC0⟩ := open_powers (hval 0 50 _ rfl rfl) h0
    obtain ⟨x1, y1, z1, rfl, hx1, hy1, hz1⟩ := open_u3 (hval 1 62 _ rfl rfl) h1
    exact HeatMore_any N0 cap0 ao0 A0 l0 c0 F0 bo0 m0 dap0 B0 co0 k0 fap0 C0 x1 y1 z1 W hn0.1 hn0.2 hm0.1 hm0.2 hk0 hC0 hx1 hy1 hz1

theorem heatMore_holds : Rows.HeatMoreSaid :=
  OpenClaim.holds_of_wide 12 Try.f12 rfl rfl rfl rfl rfl rfl rfl ⟨rfl, rfl, rfl, rfl, rfl⟩ rfl rfl rfl rfl rfl (by kernel_rfl) Try.func12 (by kernel_rfl)
    (of_decide_eq_true (by kernel_rfl)) (by unfold Func.isWrapper; rw [if_neg (of_decide_eq_false (by kernel_rfl))]; exact ⟨rfl, rfl⟩)
    (fun os started H enc _ => heatMore_lifted os started H enc)
#print axioms heatMore_holds
end Go.Proofs.Ytldepffpafccpaa
