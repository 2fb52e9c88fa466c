import Derived.Test.YtilclpldfoifkaaVd
namespace Encl
def two (x y : Rc) (i : Nat) : Rc := if i = 0 then x else y
/-- What an operation makes of two rectangles that may not be valid. -/
def onR2 (F : Rc → Rc → Out Rc) (x y : Rc) : Out Rc := if okTo (two x y) 2 = true then F x y else .bad 50
theorem two_ok {x y : Rc} (h : okTo (two x y) 2 = true) : okS x.re = true ∧ okS x.im = true ∧ okS y.re = true ∧ okS y.im = true := by
  have h' : (true && okR x && okR y) = true := h
  simp only [Bool.true_and, Bool.and_eq_true, okR_iff] at h'
  exact ⟨h'.1.1, h'.1.2, h'.2.1, h'.2.2⟩
theorem two_iff (x y : Rc) : okTo (two x y) 2 = (okR x && okR y) := by
  show (true && okR x && okR y) = _
  rw [Bool.true_and]
end Encl
namespace Go.Proofs.Ytilclpldfoifkaa
open Go.RowKit Encl
theorem Rcs.of2 {w : World} {g : Nat} {F : Nat → Rc} (a0 : w.cell? ⟨g, 0, none⟩ = some (.int .i64 (F 0).re.lo)) (a1 : w.cell? ⟨g, 1, none⟩ = some (.int .i64 (F 0).re.hi)) (a2 : w.cell? ⟨g, 2, none⟩ = some (.int .i64 (F 0).im.lo)) (a3 : w.cell? ⟨g, 3, none⟩ = some (.int .i64 (F 0).im.hi))
    (b0 : w.cell? ⟨g, 4, none⟩ = some (.int .i64 (F 1).re.lo)) (b1 : w.cell? ⟨g, 5, none⟩ = some (.int .i64 (F 1).re.hi)) (b2 : w.cell? ⟨g, 6, none⟩ = some (.int .i64 (F 1).im.lo)) (b3 : w.cell? ⟨g, 7, none⟩ = some (.int .i64 (F 1).im.hi)) : Rcs w g 2 F := by
  intro i hi
  have hi' : i = 0 ∨ i = 1 := by omega
  rcases hi' with rfl | rfl
  · exact ⟨a0, a1, a2, a3⟩
  · exact ⟨b0, b1, b2, b3⟩
end Go.Proofs.Ytilclpldfoifkaa
