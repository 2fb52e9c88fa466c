import Derived.Test.YtgbnpnenejgnnaaEe
import Derived.Test.YtgbnpnenejgnnaaEb
import Derived.Test.YtgbnpnenejgnnaaEu
namespace Go.Proofs.Ytgbnpnenejgnnaa
open Go.RowKit Encl

theorem Sps.of1 {w : World} {g : Nat} {F : Nat → Sp} (a0 : w.cell? ⟨g, 0, none⟩ = some (.int .i64 (F 0).lo)) (a1 : w.cell? ⟨g, 1, none⟩ = some (.int .i64 (F 0).hi)) : Sps w g 1 F := by
  intro i hi
  obtain rfl : i = 0 := by omega
  exact ⟨a0, a1⟩
theorem Sps.of3 {w : World} {g : Nat} {F : Nat → Sp} (a0 : w.cell? ⟨g, 0, none⟩ = some (.int .i64 (F 0).lo)) (a1 : w.cell? ⟨g, 1, none⟩ = some (.int .i64 (F 0).hi))
    (b0 : w.cell? ⟨g, 2, none⟩ = some (.int .i64 (F 1).lo)) (b1 : w.cell? ⟨g, 3, none⟩ = some (.int .i64 (F 1).hi)) (c0 : w.cell? ⟨g, 4, none⟩ = some (.int .i64 (F 2).lo)) (c1 : w.cell? ⟨g, 5, none⟩ = some (.int .i64 (F 2).hi)) : Sps w g 3 F := by
  intro i hi
  have hi' : i = 0 ∨ i = 1 ∨ i = 2 := by omega
  rcases hi' with rfl | rfl | rfl
  · exact ⟨a0, a1⟩
  · exact ⟨b0, b1⟩
  · exact ⟨c0, c1⟩

end Go.Proofs.Ytgbnpnenejgnnaa
