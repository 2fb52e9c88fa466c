/-
  AmpRanks, proved: for every three numbers that can be read as data, the Go function photonmeshlaw01.AmpRanks returns true: Cmp is an order of the real numbers, equal ones are the same, two of three lead to the third, adding a number to both changes nothing, and nothing that came in is changed. No conditions beside the row's own.
-/
import Derived.Test.YtmildncbkndcoaaRow
import Derived.Test.YtmildncbkndcoaaRanks
namespace Go.Proofs.Ytmildncbkndcoaa
open Go.ChangeShapes Go.WideShapes Go.ChangeAt Go.RowKit Go.Joins

set_option maxRecDepth 100000 in
theorem ampRanks_lifted (os : Os) (started : os.Started) (H : Type) (enc : TypeId × Value → H) :
    ReturnsInHanded {} Try.checked os 13 .any (Rows.ampRanksSpec.pre6 enc Try.checked.prog Try.f13 [] false) (Rows.ampRanksSpec.post enc Try.checked.prog Try.f13 false true false false) := by
  refine law_lifted started Try.func13 (by kernel_rfl)
    (ChangeSpec.witness6 (enc := enc) (C := Try.checked) false ⟨#[], #[.agg #[.int .i64 0, .int .i64 0, .int .i64 0, .int .i64 0, .int .i64 0], .agg #[.int .i64 0, .int .i64 0, .int .i64 0, .int .i64 0, .int .i64 0], .agg #[.int .i64 0, .int .i64 0, .int .i64 0, .int .i64 0, .int .i64 0]], []⟩ 8 (by kernel_rfl) (by kernel_rfl) (by kernel_rfl) (by kernel_rfl))
    rfl rfl (by rw [Try.params13]; decide +kernel) ?_ ?_
  · intro ds hd
    rw [Try.params13] at hd
    obtain ⟨d0, d1, d2, rfl⟩ := len_three hd
    rfl
  · intro W base args ds ps hA hval
    rw [Try.params13] at hA hval
    obtain ⟨v0, r0, _, _, _, _, rfl, h0, hA⟩ := ta_cons hA
    obtain ⟨v1, r1, _, _, _, _, rfl, h1, hA⟩ := ta_cons hA
    obtain ⟨v2, r2, _, _, _, _, rfl, h2, hA⟩ := ta_cons hA
    obtain rfl := ta_nil hA
    obtain ⟨a0, b0, c0, d0, k0, rfl, ra0, rb0, rc0, rd0, rk0⟩ := open_num (hval 0 24 _ rfl rfl) h0
    obtain ⟨a1, b1, c1, d1, k1, rfl, ra1, rb1, rc1, rd1, rk1⟩ := open_num (hval 1 24 _ rfl rfl) h1
    obtain ⟨a2, b2, c2, d2, k2, rfl, ra2, rb2, rc2, rd2, rk2⟩ := open_num (hval 2 24 _ rfl rfl) h2
    exact AmpRanks_any a0 b0 c0 d0 k0 a1 b1 c1 d1 k1 a2 b2 c2 d2 k2 W

theorem ampRanks_holds : Rows.AmpRanksSaid :=
  OpenClaim.holds_of_wide 13 Try.f13 rfl rfl rfl rfl rfl rfl rfl ⟨rfl, rfl, rfl, rfl, rfl⟩ rfl rfl rfl rfl rfl (by kernel_rfl) Try.func13 (by kernel_rfl)
    (of_decide_eq_true (by kernel_rfl)) (by unfold Func.isWrapper; rw [if_neg (of_decide_eq_false (by kernel_rfl))]; exact ⟨rfl, rfl⟩)
    (fun os started H enc _ => ampRanks_lifted os started H enc)
#print axioms ampRanks_holds
end Go.Proofs.Ytmildncbkndcoaa
