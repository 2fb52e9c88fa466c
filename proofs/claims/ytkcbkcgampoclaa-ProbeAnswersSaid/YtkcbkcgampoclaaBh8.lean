import Derived.Test.YtkcbkcgampoclaaBg8
namespace Go.Proofs.Ytkcbkcgampoclaa
open Go.RowKit Ben
set_option maxRecDepth 100000 in
set_option maxHeartbeats 16000000 in
theorem follow_any (s : Nat → Bool) : ∀ (k : Nat), k ≤ 3 → ∀ (g o cap b i : Nat) (w : World), cn k ≤ cap → cap ≤ 9223372036854775807 → b + cn k ≤ 80 → i < sz k → Unw w g o (cn k) b s → Calls Try.prog 69 #[.int .i64 (sz k : Nat), .slice (some ⟨g, o, none⟩) (cn k) cap, .int .i64 i] w fun e w' => FolR w.heap.size w' e s k b i ∧ Below w.heap.size w w' := by
  intro k
  induction k with
  | zero => intro _ g o cap b i w hc hm hb hi hU; exact follow_zero g o cap b i s w hc hm hb hi hU
  | succ k ih => intro hk g o cap b i w hc hm hb hi hU; exact follow_succ s k (by omega) (ih (by omega)) g o cap b i w hc hm hb hi hU
/-- What comes back of out. -/
def OutR (B : Nat) (w : World) (e : Ending) (s : Nat → Bool) (k b i j : Nat) (xs : List Value) : Prop := ∃ V, e = .returned (.tuple #[.int .i64 (out s k b i : Nat), V]) ∧ w.ownsRow B 3 1 V (j + dp k) (xs ++ cellsN (met s k b i))
end Go.Proofs.Ytkcbkcgampoclaa
