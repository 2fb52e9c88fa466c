import Derived.Test.YtgbnpnenejgnnaaEn7
import Derived.Test.YtgbnpnenejgnnaaEat
namespace Go.Proofs.Ytgbnpnenejgnnaa
open Go.RowKit Encl

set_option maxRecDepth 100000 in
set_option maxHeartbeats 2000000 in
theorem unitC_any (n : Int) (g : Nat) (w : World) (hc : w.cell? ⟨g, 0, none⟩ = some (.int .i64 n)) :
    Calls Try.prog 85 #[.pointer (some ⟨g, 0, none⟩)] w fun e w' => IsR e (unitS n) ∧ Below w.heap.size w w' := by
  obtain ⟨SP, hsp⟩ : ∃ SP, unitS n = SP := ⟨_, rfl⟩
  have HSP := Lib.hid hsp
  rw [hsp]
  clear hsp
  have hg : g < w.heap.size := World.block_lt_of_cell? w _ hc
  go_enter Try.func85, Try.ntmps85
  go_wp2_with fail
  refine (unit_any n _).mono ?_
  rintro e w1 ⟨he, hb⟩
  rw [HSP.out] at he
  have HE := Lib.hid he
  have D1 : Below w.heap.size w w1 := Below.trans (by go_grown) (hb.mono (by first | omega | (simp; done) | (simp; omega)))
  have s1 : w.heap.size < w1.heap.size := by have hs := hb.size; (try simp at hs); omega
  obtain ⟨k1, k2⟩ := bcl hb
  have d0 := (k1 w.heap.size 0 (by simp)).trans (by go_cell : _ = some (.int .i64 0))
  have d1 := (k1 w.heap.size 1 (by simp)).trans (by go_cell : _ = some (.int .i64 0))
  have d2 := (k1 w.heap.size 2 (by simp)).trans (by go_cell : _ = some (.int .i64 0))
  have d3 := (k1 w.heap.size 3 (by simp)).trans (by go_cell : _ = some (.int .i64 0))
  have f0 := (k2 w.heap.size 0 (by simp)).trans (by go_cell : _ = false)
  have f1 := (k2 w.heap.size 1 (by simp)).trans (by go_cell : _ = false)
  have f2 := (k2 w.heap.size 2 (by simp)).trans (by go_cell : _ = false)
  have f3 := (k2 w.heap.size 3 (by simp)).trans (by go_cell : _ = false)
  clear hb k1 k2 he
  rcases SP with ⟨⟨p, q⟩, ⟨s, t⟩⟩ | k
  · obtain rfl : e = .returned (.agg #[.int .i64 p, .int .i64 q, .int .i64 s, .int .i64 t]) := HE.out
    go_wp2_with fail
    refine bodyPost_ret (v := .agg #[.int .i64 p, .int .i64 q, .int .i64 s, .int .i64 t]) (by simp [results, Try.results85, go_sem, *]) rfl ⟨rfl, by go_grown⟩
  · obtain rfl : e = .panicked [{ v := .iface 26 (.int .i64 k), recovered := false }] := HE.out
    go_wp2_with fail
    exact ⟨rfl, rfl, by go_grown⟩

set_option maxRecDepth 100000 in
set_option maxHeartbeats 2000000 in
theorem Unit_any (n : Int) (w : World) :
    Calls Try.prog 39 #[.int .i64 n] w fun e w' => e = OutR (unitS n) ∧ Below w.heap.size w w' := by
  have hmf : ∀ (fn : Fn) (first cap : Array Value) (w : World), (Instr.makeFunc fn first cap).run Try.prog w = .ok (.func fn first cap) w := fun _ _ _ _ => rfl
  obtain ⟨SP, hsp⟩ : ∃ SP, unitS n = SP := ⟨_, rfl⟩
  have HSP := Lib.hid hsp
  rw [hsp]
  clear hsp
  go_enter Try.func39, Try.ntmps39
  go_wp2_with fail
  refine (attempt_unit ⟨w.heap.size, 0, none⟩ (unitS n) _ (fun w1 hb => unitC_any n w.heap.size w1 ((hb.cell (p := ⟨w.heap.size, 0, none⟩) (by first | omega | (simp; done) | (simp; omega))).trans (by go_cell)))).mono ?_
  rw [HSP.out]
  rintro e w1 ⟨rfl, hb⟩
  have D1 : Below w.heap.size w w1 := Below.trans (by go_grown) (hb.mono (by first | omega | (simp; done) | (simp; omega)))
  have s1 : w.heap.size + 1 < w1.heap.size := by have hs := hb.size; (try simp at hs); omega
  obtain ⟨k1, k2⟩ := bcl hb
  have d0 := (k1 (w.heap.size + 1) 0 (by simp)).trans (by go_cell : _ = some (.int .i64 0))
  have d1 := (k1 (w.heap.size + 1) 1 (by simp)).trans (by go_cell : _ = some (.int .i64 0))
  have d2 := (k1 (w.heap.size + 1) 2 (by simp)).trans (by go_cell : _ = some (.int .i64 0))
  have d3 := (k1 (w.heap.size + 1) 3 (by simp)).trans (by go_cell : _ = some (.int .i64 0))
  have f0 := (k2 (w.heap.size + 1) 0 (by simp)).trans (by go_cell : _ = false)
  have f1 := (k2 (w.heap.size + 1) 1 (by simp)).trans (by go_cell : _ = false)
  have f2 := (k2 (w.heap.size + 1) 2 (by simp)).trans (by go_cell : _ = false)
  have f3 := (k2 (w.heap.size + 1) 3 (by simp)).trans (by go_cell : _ = false)
  clear hb k1 k2
  rcases SP with ⟨⟨p, q⟩, ⟨s, t⟩⟩ | k
  · unfold OutR
    (try simp only)
    go_wp2_with fail
    refine bodyPost_ret (v := .tuple #[.agg #[.int .i64 p, .int .i64 q, .int .i64 s, .int .i64 t], .int .i64 0]) (by simp [results, Try.results39, go_sem, *]) rfl ⟨rfl, by go_grown⟩
  · unfold OutR
    (try simp only)
    go_wp2_with fail
    refine bodyPost_ret (v := .tuple #[.agg #[.int .i64 0, .int .i64 0, .int .i64 0, .int .i64 0], .int .i64 k]) (by simp [results, Try.results39, go_sem, *]) rfl ⟨rfl, by go_grown⟩

set_option maxRecDepth 100000 in
set_option maxHeartbeats 2000000 in
theorem eawake_any (w : World) :
    Calls Try.prog 24 #[] w fun e w' => e = .returned (.bool true) ∧ Below w.heap.size w w' := by
  go_enter Try.func24, Try.ntmps24
  go_wp2_with fail
  refine (Unit_any 256 _).mono ?_
  rw [unit256]
  unfold OutR
  rintro e w1 ⟨rfl, hb⟩
  (try simp only)
  go_wp2_with fail
  go_returns
  exact ⟨rfl, bal hb _⟩
end Go.Proofs.Ytgbnpnenejgnnaa
