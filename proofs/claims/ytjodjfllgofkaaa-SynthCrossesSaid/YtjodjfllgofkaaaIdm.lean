import Derived.Test.YtjodjfllgofkaaaFi
namespace Amp
def N1 : Nm := ⟨⟨1, 0, 0, 0⟩, 0⟩
/-- The elements of the identity of n rows. -/
def idF (n : Nat) (k : Nat) : Nm := if k / n = k % n then N1 else N0
/-- Element i, j of the identity. -/
def idz (i j : Nat) : Nm := if i = j then N1 else N0
end Amp
namespace Go.Proofs.Ytjodjfllgofkaaa
open Go.RowKit Amp
attribute [local go_sem] ix0 ix1 ix2 ix3 jx0 jx1 jx2 jx3
attribute [local go_sem high] run_eqNum run_neNum

set_option maxHeartbeats 1000000 in
theorem identity_any (N : Int) (i j : Nat) (w : World) :
    Calls Try.prog 91 #[.agg #[.int .i64 N], .int .i64 i, .int .i64 j] w fun e w' => e = Ret5 (idz i j, 0) ∧ Below w.heap.size w w' := by
  by_cases h : i = j
  · subst h
    have HE : Hid (idz i i = N1) := Lib.hid (if_pos rfl)
    go_enter Try.func91, Try.ntmps91
    go_wp2_with fail
    refine bodyPost_ret (v := .tuple #[.agg #[.int .i64 1, .int .i64 0, .int .i64 0, .int .i64 0, .int .i64 0], .int .i64 0]) (by simp [results, Try.results91, go_sem]) rfl ⟨by rw [HE.out]; rfl, by go_grown⟩
  · have HE : Hid (idz i j = N0) := Lib.hid (if_neg h)
    go_enter Try.func91, Try.ntmps91
    go_wp2_with fail
    refine bodyPost_ret (v := .tuple #[.agg #[.int .i64 0, .int .i64 0, .int .i64 0, .int .i64 0, .int .i64 0], .int .i64 0]) (by simp [results, Try.results91, go_sem]) rfl ⟨by rw [HE.out]; rfl, by go_grown⟩

/-- What a function that returns a matrix, or an error, returned. -/
def MatIs (B : Nat) (w : World) (e : Ending) (N : Int) (n : Nat) (f : Nat → Nm) (er : Int) : Prop :=
  ∃ ao cap, e = .returned (.tuple #[.agg #[.int .i64 N, .slice ao n cap], .int .i64 er]) ∧ Nums w ao n f ∧ ∀ a, ao = some a → B ≤ a.block

set_option maxHeartbeats 1000000 in
theorem mIdentity_ok (n : Nat) (w : World) (h1 : 1 ≤ n) (h6 : n ≤ 6) :
    Calls Try.prog 53 #[.int .i64 n] w fun e w' => MatIs w.heap.size w' e n (n * n) (idF n) 0 ∧ Below w.heap.size w w' := by
  have h1' : 1 ≤ (n : Int) := by omega
  have h6' : (n : Int) ≤ 6 := by omega
  go_enter Try.func53, Try.ntmps53
  go_wp2_with fail
  refine (filled_identity n h6 (.agg #[.int .i64 n]) idz _ (fun i j w1 _ _ _ => identity_any _ i j w1)).mono ?_
  rintro e w1 ⟨ao, cap, rfl, hnu, hfr, hb⟩
  have HFR : Hid (∀ a, ao = some a → w.heap.size + 1 ≤ a.block) := Lib.hid (fun a ha => by have := hfr a ha; simp at this; omega)
  have HN := Lib.hid hnu
  obtain ⟨k1, k2⟩ := bcell hb
  have c0 : w1.cell? ⟨w.heap.size, 0, none⟩ = some (.int .i64 0) := (k1 _ _ (by simp)).trans (by go_cell)
  have c1 : w1.cell? ⟨w.heap.size, 1, none⟩ = some (.slice none 0 0) := (k1 _ _ (by simp)).trans (by go_cell)
  have f0 : w1.frozen? ⟨w.heap.size, 0, none⟩ = false := (k2 _ _ (by simp)).trans (by go_cell)
  have f1 : w1.frozen? ⟨w.heap.size, 1, none⟩ = false := (k2 _ _ (by simp)).trans (by go_cell)
  have D1 : Below w.heap.size w w1 := Below.trans (by go_grown) (hb.mono (by simp))
  have hz : w.heap.size < w1.heap.size := by have := hb.size; simp at this; omega
  clear hb k1 k2 hnu hfr
  go_wp2_with fail
  refine bodyPost_ret (v := .tuple #[.agg #[.int .i64 n, .slice ao (n * n) cap], .int .i64 0]) (by simp [results, Try.results53, go_sem, *]) rfl ⟨⟨ao, cap, rfl, ?_, fun a ha => by have := HFR.out a ha; omega⟩, by go_grown⟩
  exact (HN.out.set HFR.out (by omega) _).set HFR.out (by omega) _
end Go.Proofs.Ytjodjfllgofkaaa
