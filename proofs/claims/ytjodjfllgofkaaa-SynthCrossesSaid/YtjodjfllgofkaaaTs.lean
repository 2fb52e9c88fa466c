import Derived.Test.YtjodjfllgofkaaaTr
import Derived.Test.YtjodjfllgofkaaaIdm
namespace Go.Proofs.Ytjodjfllgofkaaa
open Go.RowKit Amp
attribute [local go_sem] ix0 ix1 ix2 ix3 jx0 jx1 jx2 jx3
attribute [local go_sem high] run_eqNum run_neNum

set_option maxHeartbeats 1000000 in
theorem read_yes (N : Int) (ao : Option Addr) (n cap : Nat) (f : Nat → Nm) (w : World) (hn : n ≤ 9223372036854775807) (hc : Nums w ao n f) (hv : Hid (mvS N n f = true)) :
    Calls Try.prog 92 #[.agg #[.int .i64 N, .slice ao n cap]] w fun e w' => e = .returned (.tuple #[.agg #[.int .i64 N, .slice ao n cap], .int .i64 0]) ∧ Below w.heap.size w w' := by
  have HC := Lib.hid hc
  clear hc
  go_enter Try.func92, Try.ntmps92
  go_wp2_with fail
  refine (mValid_any N ao n cap f _ hn (HC.out.keep (by go_grown))).mono ?_
  rintro e w1 ⟨rfl, hb⟩
  rw [hv.out]
  obtain ⟨k1, k2⟩ := bcell hb
  have c0 : w1.cell? ⟨w.heap.size, 0, none⟩ = some (.int .i64 N) := (k1 _ _ (by simp; omega)).trans (by go_cell)
  have c1 : w1.cell? ⟨w.heap.size, 1, none⟩ = some (.slice ao n cap) := (k1 _ _ (by simp; omega)).trans (by go_cell)
  have d0 : w1.cell? ⟨w.heap.size + 1, 0, none⟩ = some (.int .i64 0) := (k1 _ _ (by simp)).trans (by go_cell)
  have d1 : w1.cell? ⟨w.heap.size + 1, 1, none⟩ = some (.slice none 0 0) := (k1 _ _ (by simp)).trans (by go_cell)
  have f0 : w1.frozen? ⟨w.heap.size + 1, 0, none⟩ = false := (k2 _ _ (by simp)).trans (by go_cell)
  have f1 : w1.frozen? ⟨w.heap.size + 1, 1, none⟩ = false := (k2 _ _ (by simp)).trans (by go_cell)
  have D1 : Below w.heap.size w w1 := Below.trans (by go_grown) (hb.mono (by first | omega | (simp; done) | (simp; omega)))
  have s1 : w.heap.size + 1 < w1.heap.size := by have := hb.size; simp at this; omega
  clear hb k1 k2
  go_wp2_with fail
  refine bodyPost_ret (v := .tuple #[.agg #[.int .i64 N, .slice ao n cap], .int .i64 0]) (by simp [results, Try.results92, go_sem, *]) rfl ⟨rfl, by go_grown⟩
set_option maxHeartbeats 1000000 in
theorem read_no (N : Int) (ao : Option Addr) (n cap : Nat) (f : Nat → Nm) (w : World) (hn : n ≤ 9223372036854775807) (hc : Nums w ao n f) (hv : Hid (mvS N n f = false)) :
    Calls Try.prog 92 #[.agg #[.int .i64 N, .slice ao n cap]] w fun e w' => e = .returned (.tuple #[.agg #[.int .i64 0, .slice none 0 0], .int .i64 20]) ∧ Below w.heap.size w w' := by
  have HC := Lib.hid hc
  clear hc
  go_enter Try.func92, Try.ntmps92
  go_wp2_with fail
  refine (mValid_any N ao n cap f _ hn (HC.out.keep (by go_grown))).mono ?_
  rintro e w1 ⟨rfl, hb⟩
  rw [hv.out]
  obtain ⟨k1, k2⟩ := bcell hb
  have d0 : w1.cell? ⟨w.heap.size + 1, 0, none⟩ = some (.int .i64 0) := (k1 _ _ (by simp)).trans (by go_cell)
  have d1 : w1.cell? ⟨w.heap.size + 1, 1, none⟩ = some (.slice none 0 0) := (k1 _ _ (by simp)).trans (by go_cell)
  have f0 : w1.frozen? ⟨w.heap.size + 1, 0, none⟩ = false := (k2 _ _ (by simp)).trans (by go_cell)
  have f1 : w1.frozen? ⟨w.heap.size + 1, 1, none⟩ = false := (k2 _ _ (by simp)).trans (by go_cell)
  have D1 : Below w.heap.size w w1 := Below.trans (by go_grown) (hb.mono (by first | omega | (simp; done) | (simp; omega)))
  have s1 : w.heap.size + 1 < w1.heap.size := by have := hb.size; simp at this; omega
  clear hb k1 k2
  go_wp2_with fail
  refine bodyPost_ret (v := .tuple #[.agg #[.int .i64 0, .slice none 0 0], .int .i64 20]) (by simp [results, Try.results92, go_sem, *]) rfl ⟨rfl, by go_grown⟩
end Go.Proofs.Ytjodjfllgofkaaa
