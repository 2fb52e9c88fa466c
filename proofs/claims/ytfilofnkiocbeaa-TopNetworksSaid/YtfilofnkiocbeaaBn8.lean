import Derived.Test.YtfilofnkiocbeaaBc8
import Derived.BigRegion
import Derived.Lib.SliceRun
namespace Go.Proofs.Ytfilofnkiocbeaa
open Go.RowKit Ben
set_option maxRecDepth 100000 in
set_option maxHeartbeats 4000000 in
theorem partI0 (g o cap : Nat) (w : World) (hc : 6 ≤ cap) (hm : cap ≤ 9223372036854775807) :
    Calls Try.prog 71 #[.int .i64 4, .slice (some ⟨g, o, none⟩) 6 cap] w fun e w' => e = .returned (.agg #[.slice (some ⟨g, o, none⟩) 2 cap, .slice (some ⟨g, o + 2, none⟩) 2 (cap - 2), .slice (some ⟨g, o + 4, none⟩) 1 (cap - 4), .slice (some ⟨g, o + (4 + 1), none⟩) 1 (cap - 4 - 1)]) ∧ Below w.heap.size w w' := by
  have c1 : (6 : Int) ≤ (cap : Int) := by omega
  go_enter Try.func71, Try.ntmps71
  go_wp2_with fail
  go_region
  go_wp2_with fail
  go_region
  go_wp2_with fail
  go_returns
  exact ⟨rfl, by go_grown⟩
set_option maxRecDepth 100000 in
set_option maxHeartbeats 4000000 in
theorem partI1 (g o cap : Nat) (w : World) (hc : 20 ≤ cap) (hm : cap ≤ 9223372036854775807) :
    Calls Try.prog 71 #[.int .i64 8, .slice (some ⟨g, o, none⟩) 20 cap] w fun e w' => e = .returned (.agg #[.slice (some ⟨g, o, none⟩) 4 cap, .slice (some ⟨g, o + 4, none⟩) 4 (cap - 4), .slice (some ⟨g, o + 8, none⟩) 6 (cap - 8), .slice (some ⟨g, o + (8 + 6), none⟩) 6 (cap - 8 - 6)]) ∧ Below w.heap.size w w' := by
  have c1 : (20 : Int) ≤ (cap : Int) := by omega
  go_enter Try.func71, Try.ntmps71
  go_wp2_with fail
  go_region
  go_wp2_with fail
  go_region
  go_wp2_with fail
  go_returns
  exact ⟨rfl, by go_grown⟩
set_option maxRecDepth 100000 in
set_option maxHeartbeats 4000000 in
theorem partI2 (g o cap : Nat) (w : World) (hc : 56 ≤ cap) (hm : cap ≤ 9223372036854775807) :
    Calls Try.prog 71 #[.int .i64 16, .slice (some ⟨g, o, none⟩) 56 cap] w fun e w' => e = .returned (.agg #[.slice (some ⟨g, o, none⟩) 8 cap, .slice (some ⟨g, o + 8, none⟩) 8 (cap - 8), .slice (some ⟨g, o + 16, none⟩) 20 (cap - 16), .slice (some ⟨g, o + (16 + 20), none⟩) 20 (cap - 16 - 20)]) ∧ Below w.heap.size w w' := by
  have c1 : (56 : Int) ≤ (cap : Int) := by omega
  go_enter Try.func71, Try.ntmps71
  go_wp2_with fail
  go_region
  go_wp2_with fail
  go_region
  go_wp2_with fail
  go_returns
  exact ⟨rfl, by go_grown⟩
theorem partI_any (k g o cap : Nat) (w : World) (hk : k ≤ 2) (hc : cn (k + 1) ≤ cap) (hm : cap ≤ 9223372036854775807) :
    Calls Try.prog 71 #[.int .i64 (sz (k + 1) : Nat), .slice (some ⟨g, o, none⟩) (cn (k + 1)) cap] w fun e w' => e = .returned (.agg #[.slice (some ⟨g, o, none⟩) (sz k) cap, .slice (some ⟨g, o + sz k, none⟩) (sz k) (cap - sz k), .slice (some ⟨g, o + sz (k + 1), none⟩) (cn k) (cap - sz (k + 1)), .slice (some ⟨g, o + (sz (k + 1) + cn k), none⟩) (cn k) (cap - sz (k + 1) - cn k)]) ∧ Below w.heap.size w w' := by
  have h : k = 0 ∨ k = 1 ∨ k = 2 := by omega
  rcases h with rfl | rfl | rfl
  · exact partI0 g o cap w hc hm
  · exact partI1 g o cap w hc hm
  · exact partI2 g o cap w hc hm
end Go.Proofs.Ytfilofnkiocbeaa
