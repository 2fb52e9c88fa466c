import Derived.Test.YtjodjfllgofkaaaDs
import Derived.Test.YtjodjfllgofkaaaTr
namespace Go.Proofs.Ytjodjfllgofkaaa
open Go.RowKit Amp
attribute [local go_sem] ix0 ix1 ix2 ix3 jx0 jx1 jx2 jx3
attribute [local go_sem high] run_eqNum run_neNum
theorem at_x (n : Nat) (x : Int) (w : World) (hx0 : 0 ≤ x * (n : Int)) (hx : x * (n : Int) ≤ 36) :
    Calls Try.prog 115 #[.agg #[.int .i64 n], .int .i64 x, .int .i64 0] w fun e w' => e = .returned (.int .i64 (x * (n : Int))) ∧ Below w.heap.size w w' := by
  obtain ⟨y, hy⟩ : ∃ y, Hid (x * (n : Int) = y) := ⟨_, rfl⟩
  have hy' := hy.out
  rw [hy'] at hx hx0
  go_enter Try.func115, Try.ntmps115
  go_wp2_with fail
  go_returns
  exact ⟨by rw [hy.out]; rfl, by go_grown⟩

set_option maxHeartbeats 2000000 in
set_option maxRecDepth 100000 in
theorem row_any (n i g cap : Nat) (f : Nat → Nm) (w : World) (hn : n ≤ 6) (hi : i < n) (hcap : n * n ≤ cap) (_hcm : cap ≤ 9223372036854775807) (hc : Numw w g (n * n) f) :
    Calls Try.prog 95 #[.agg #[.int .i64 n, .slice (some ⟨g, 0, none⟩) (n * n) cap], .int .i64 i] w fun e w' => (∃ a dap, e = .returned (.slice a n dap) ∧ Nums w' a n (fun t => f (i * n + t))) ∧ Below w.heap.size w w' := by
  have h36 : n * n ≤ 36 := Nat.mul_le_mul hn hn
  have hm : (i + 1) * n ≤ n * n := Nat.mul_le_mul_right n (by omega)
  rw [Nat.succ_mul] at hm
  have lb : g < w.heap.size := World.block_lt_of_cell? w _ (hc 0 (by have := Nat.mul_pos (show 0 < n by omega) (show 0 < n by omega); omega)).1.1
  have HC := Lib.hid hc
  obtain ⟨p, hp⟩ : ∃ p, Hid (i * n = p) := ⟨_, rfl⟩
  obtain ⟨q, hq⟩ : ∃ q, Hid (i * n + n = q) := ⟨_, rfl⟩
  have hpi : (i : Int) * (n : Int) = (p : Int) := by rw [← Int.natCast_mul, hp.out]
  have hqi : ((i : Int) + 1) * (n : Int) = (q : Int) := by rw [← hq.out, Int.add_mul, Int.one_mul, Int.natCast_add, Int.natCast_mul]
  have hpq : p + n = q := by have := hp.out; have := hq.out; omega
  have hq36 : q ≤ 36 := by have := hq.out; omega
  have hqc : q ≤ cap := by have := hq.out; omega
  have HPI := Lib.hid hpi
  have HQI := Lib.hid hqi
  have hi6 : (i : Int) ≤ 6 := by omega
  have HW : Hid (IntKind.i64.wrap ((i : Int) + 1) = (i : Int) + 1) := Lib.hid (IntWalk.i64_in _ (by omega))
  have hp0 : (0 : Int) ≤ (p : Int) := by omega
  have hq0 : (0 : Int) ≤ (q : Int) := by omega
  have hi0 : (0 : Int) ≤ (i : Int) + 1 := by omega
  have hq1 : (p : Int) ≤ (q : Int) := by omega
  have hq2 : (q : Int) ≤ (cap : Int) := by omega
  clear h36 hm hc hpi hqi
  go_enter Try.func95, Try.ntmps95
  go_wp2_with fail
  have hb0 : Below w.heap.size w (w.alloc (Obj.cells #[.int .i64 n, .slice (some ⟨g, 0, none⟩) (n * n) cap] 115)) := by go_grown
  have c0 : (w.alloc (Obj.cells #[.int .i64 n, .slice (some ⟨g, 0, none⟩) (n * n) cap] 115)).cell? ⟨w.heap.size, 0, none⟩ = some (.int .i64 n) := by go_cell
  have c1 : (w.alloc (Obj.cells #[.int .i64 n, .slice (some ⟨g, 0, none⟩) (n * n) cap] 115)).cell? ⟨w.heap.size, 1, none⟩ = some (.slice (some ⟨g, 0, none⟩) (n * n) cap) := by go_cell
  have hsz : w.heap.size < (w.alloc (Obj.cells #[.int .i64 n, .slice (some ⟨g, 0, none⟩) (n * n) cap] 115)).heap.size := by simp
  generalize (w.alloc (Obj.cells #[.int .i64 n, .slice (some ⟨g, 0, none⟩) (n * n) cap] 115)) = W at *
  have V0 : ∀ w', Below W.heap.size W w' → w'.cell? ⟨w.heap.size, 0, none⟩ = some (.int .i64 n) ∧ w'.cell? ⟨w.heap.size, 1, none⟩ = some (.slice (some ⟨g, 0, none⟩) (n * n) cap) := fun w' hb => by
    rw [hb.cell (p := ⟨w.heap.size, 0, none⟩) hsz, hb.cell (p := ⟨w.heap.size, 1, none⟩) hsz]
    exact ⟨c0, c1⟩
  have G0 := Lib.hid V0
  have HB0 := Lib.hid hb0
  clear V0 hb0
  go_region_held3 (fun w' => w'.cell? ⟨w.heap.size, 0, none⟩ = some (.int .i64 n) ∧ w'.cell? ⟨w.heap.size, 1, none⟩ = some (.slice (some ⟨g, 0, none⟩) (n * n) cap))
    ((first | (refine G0.out _ ?_; go_grown; done) | go_keep))
    ((go_at_call 115; refine (at_x n _ _ ?_ ?_).mono ?_; (focus (first | (rw [HPI.out]; omega) | (rw [HQI.out]; omega) | (rw [HW.out, HQI.out]; omega))); (focus (first | (rw [HPI.out]; omega) | (rw [HQI.out]; omega) | (rw [HW.out, HQI.out]; omega))); rintro e wA ⟨rfl, hb⟩; (first | rw [HPI.out] | rw [HQI.out] | rw [HW.out, HQI.out]); have HD : Below W.heap.size W wA := (Below.trans (by first | exact Below.refl _ _ | go_grown) (hb.mono (by first | omega | (simp; done) | (simp; omega)))); have hzA := HD.size; have DA := HB0.out.trans (HD.mono (show w.heap.size ≤ W.heap.size by omega)); clear hb))
  all_goals go_wp2_with fail
  all_goals go_returns
  all_goals
    have hqp : q - p = n := by omega
    refine ⟨⟨some ⟨g, p * 5, none⟩, ⟨cap - p, ?_⟩, fun _ => ⟨g, p * 5, rfl, fun t ht => ?_⟩⟩, by assumption⟩
    · show Ending.returned (.slice (some ⟨g, p * 5, none⟩) (q - p) (cap - p)) = _
      rw [hqp]
    · have h1 := (HC.out (i * n + t) (by have h2 : (i + 1) * n ≤ n * n := Nat.mul_le_mul_right n (by omega)
                                         rw [Nat.succ_mul] at h2; omega)).1
      rw [hp.out] at h1
      rw [hp.out, ← Nat.add_mul]
      exact h1.keep (by assumption) lb
end Go.Proofs.Ytjodjfllgofkaaa
