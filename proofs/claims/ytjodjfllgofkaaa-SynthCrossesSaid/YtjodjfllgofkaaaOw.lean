import Derived.Test.YtjodjfllgofkaaaMm
import Derived.Test.YtjodjfllgofkaaaU
import Derived.Deep.RegionHeld3
namespace Amp
/-- An item of a circuit. -/
structure It where
  kind : Int
  at' : Int
  n : Int
  name : ByteArray
def NT : Nm := ⟨⟨1, 0, 0, 0⟩, 1⟩
def NO : Nm := ⟨⟨0, 0, 1, 0⟩, 1⟩
/-- How many guides an item that is no cell has, and its matrix on these. -/
def ownS (x : It) : Nat := if x.kind = 1 then 1 else 2
def ownF (x : It) (k : Nat) : Nm :=
  if x.kind = 1 then (chgS N1 (fun v => rotn (x.n % 8).toNat v)).1
  else if x.kind = 2 then (if k = 0 ∨ k = 3 then NT else NO)
  else (if k = 0 ∨ k = 3 then N0 else N1)
end Amp
namespace Go.Proofs.Ytjodjfllgofkaaa
open Go.RowKit Amp
attribute [local go_sem] ix0 ix1 ix2 ix3 jx0 jx1 jx2 jx3
attribute [local go_sem high] run_eqNum run_neNum

set_option maxHeartbeats 1000000 in
theorem mIdentityW (n : Nat) (w : World) (h1 : 0 < n) (h6 : n ≤ 6) :
    Calls Try.prog 53 #[.int .i64 n] w fun e w' => MatW w.heap.size w' e n (idF n) ∧ Below w.heap.size w w' := by
  have h1' : 1 ≤ (n : Int) := by omega
  have h6' : (n : Int) ≤ 6 := by omega
  go_enter Try.func53, Try.ntmps53
  go_wp2_with fail
  refine (filledW_identity n h1 h6 (.agg #[.int .i64 n]) idz _ (fun i j w1 _ _ _ => identity_any _ i j w1)).mono ?_
  rintro e w1 ⟨⟨g, cap, rfl, hnu, hg1, hg2, hg3⟩, hb⟩
  have HN := Lib.hid hnu
  have HG := Lib.hid (And.intro hg2 hg3)
  have hg4 : ¬ w.heap.size = g := by first | omega | (simp at hg1; omega)
  have hg5 : w.heap.size ≤ g := by first | omega | (simp at hg1; omega)
  have HG5 := Lib.hid (And.intro hg4 hg5)
  clear hnu hg1 hg2 hg3 hg4 hg5
  obtain ⟨ka1, kb1⟩ := bcell hb
  have c1_0_0 : w1.cell? ⟨w.heap.size, 0, none⟩ = some (.int .i64 0) := (ka1 _ _ (by first | omega | (simp; done) | (simp; omega))).trans (by go_cell)
  have f1_0_0 : w1.frozen? ⟨w.heap.size, 0, none⟩ = false := (kb1 _ _ (by first | omega | (simp; done) | (simp; omega))).trans (by go_cell)
  have c1_0_1 : w1.cell? ⟨w.heap.size, 1, none⟩ = some (.slice none 0 0) := (ka1 _ _ (by first | omega | (simp; done) | (simp; omega))).trans (by go_cell)
  have f1_0_1 : w1.frozen? ⟨w.heap.size, 1, none⟩ = false := (kb1 _ _ (by first | omega | (simp; done) | (simp; omega))).trans (by go_cell)
  have D1 : Below w.heap.size w w1 := Below.trans (by go_grown) (hb.mono (by first | omega | (simp; done) | (simp; omega)))
  have s1_0 : w.heap.size < w1.heap.size := by have hs := hb.size; (try simp at hs); omega
  clear hb ka1 kb1
  go_wp2_with fail
  refine bodyPost_ret (v := .tuple #[.agg #[.int .i64 n, .slice (some ⟨g, 0, none⟩) (n * n) cap], .int .i64 0]) (by simp [results, Try.results53, go_sem, *]) rfl ⟨⟨g, cap, rfl, ?_, HG5.out.2, HG.out.1, HG.out.2⟩, by go_grown⟩
  exact (HN.out.other HG5.out.1).other HG5.out.1

/-- A small matrix, made by the call. -/
def OwnIs (B : Nat) (w : World) (e : Ending) (s : Nat) (f : Nat → Nm) : Prop :=
  ∃ g, e = .returned (.agg #[.int .i64 s, .slice (some ⟨g, 0, none⟩) (s * s) (s * s)]) ∧ Numw w g (s * s) f ∧ B ≤ g
theorem Numw.of1 {w : World} {g : Nat} {f : Nat → Nm} {a b c d k : Int} (h : Has5 w g a b c d k) (e : f 0 = ⟨⟨a, b, c, d⟩, k⟩) : Numw w g 1 f := by
  intro i hi
  obtain rfl : i = 0 := by omega
  rw [e]
  exact h

set_option maxHeartbeats 2000000 in
theorem own_couple (at' m : Int) (nm : ByteArray) (w : World) :
    Calls Try.prog 56 #[.agg #[.int .i64 2, .int .i64 at', .int .i64 m, .string nm], .map none] w fun e w' => OwnIs w.heap.size w' e (ownS ⟨2, at', m, nm⟩) (ownF ⟨2, at', m, nm⟩) ∧ Below w.heap.size w w' := by
  go_enter Try.func56, Try.ntmps56
  go_wp2_with fail
  refine bodyPost_ret (v := .agg #[.int .i64 2, .slice (some ⟨w.heap.size + 1 + 1 + 1 + 1 + 1, 0, none⟩) 4 4]) (by simp [results, Try.results56, go_sem]) rfl ⟨⟨w.heap.size + 1 + 1 + 1 + 1 + 1, rfl, ?_, by omega⟩, by go_grown⟩
  · show Numw _ _ 4 _
    intro i hi
    rcases (show i = 0 ∨ i = 1 ∨ i = 2 ∨ i = 3 by have : i < 4 := hi; omega) with rfl | rfl | rfl | rfl
    · rw [show ownF ⟨2, at', m, nm⟩ 0 = ⟨⟨1, 0, 0, 0⟩, 1⟩ from rfl]
      refine ⟨⟨?_, ?_, ?_, ?_, ?_⟩, ?_, ?_, ?_, ?_, ?_⟩ <;> go_cell
    · rw [show ownF ⟨2, at', m, nm⟩ 1 = ⟨⟨0, 0, 1, 0⟩, 1⟩ from rfl]
      refine ⟨⟨?_, ?_, ?_, ?_, ?_⟩, ?_, ?_, ?_, ?_, ?_⟩ <;> go_cell
    · rw [show ownF ⟨2, at', m, nm⟩ 2 = ⟨⟨0, 0, 1, 0⟩, 1⟩ from rfl]
      refine ⟨⟨?_, ?_, ?_, ?_, ?_⟩, ?_, ?_, ?_, ?_, ?_⟩ <;> go_cell
    · rw [show ownF ⟨2, at', m, nm⟩ 3 = ⟨⟨1, 0, 0, 0⟩, 1⟩ from rfl]
      refine ⟨⟨?_, ?_, ?_, ?_, ?_⟩, ?_, ?_, ?_, ?_, ?_⟩ <;> go_cell

set_option maxHeartbeats 2000000 in
theorem own_cross (at' m : Int) (nm : ByteArray) (w : World) :
    Calls Try.prog 56 #[.agg #[.int .i64 3, .int .i64 at', .int .i64 m, .string nm], .map none] w fun e w' => OwnIs w.heap.size w' e (ownS ⟨3, at', m, nm⟩) (ownF ⟨3, at', m, nm⟩) ∧ Below w.heap.size w w' := by
  go_enter Try.func56, Try.ntmps56
  go_wp2_with fail
  refine bodyPost_ret (v := .agg #[.int .i64 2, .slice (some ⟨w.heap.size + 1 + 1 + 1, 0, none⟩) 4 4]) (by simp [results, Try.results56, go_sem]) rfl ⟨⟨w.heap.size + 1 + 1 + 1, rfl, ?_, by omega⟩, by go_grown⟩
  · show Numw _ _ 4 _
    intro i hi
    rcases (show i = 0 ∨ i = 1 ∨ i = 2 ∨ i = 3 by have : i < 4 := hi; omega) with rfl | rfl | rfl | rfl
    · rw [show ownF ⟨3, at', m, nm⟩ 0 = ⟨⟨0, 0, 0, 0⟩, 0⟩ from rfl]
      refine ⟨⟨?_, ?_, ?_, ?_, ?_⟩, ?_, ?_, ?_, ?_, ?_⟩ <;> go_cell
    · rw [show ownF ⟨3, at', m, nm⟩ 1 = ⟨⟨1, 0, 0, 0⟩, 0⟩ from rfl]
      refine ⟨⟨?_, ?_, ?_, ?_, ?_⟩, ?_, ?_, ?_, ?_, ?_⟩ <;> go_cell
    · rw [show ownF ⟨3, at', m, nm⟩ 2 = ⟨⟨1, 0, 0, 0⟩, 0⟩ from rfl]
      refine ⟨⟨?_, ?_, ?_, ?_, ?_⟩, ?_, ?_, ?_, ?_, ?_⟩ <;> go_cell
    · rw [show ownF ⟨3, at', m, nm⟩ 3 = ⟨⟨0, 0, 0, 0⟩, 0⟩ from rfl]
      refine ⟨⟨?_, ?_, ?_, ?_, ?_⟩, ?_, ?_, ?_, ?_, ?_⟩ <;> go_cell

set_option maxHeartbeats 2000000 in
theorem own_phase (at' m : Int) (nm : ByteArray) (w : World) :
    Calls Try.prog 56 #[.agg #[.int .i64 1, .int .i64 at', .int .i64 m, .string nm], .map none] w fun e w' => OwnIs w.heap.size w' e (ownS ⟨1, at', m, nm⟩) (ownF ⟨1, at', m, nm⟩) ∧ Below w.heap.size w w' := by
  go_enter Try.func56, Try.ntmps56
  go_wp2_with fail
  obtain ⟨x0, x1, x2, x3, x4, xe, HM⟩ := res5 (chgS ⟨⟨1, 0, 0, 0⟩, 0⟩ (fun x => rotn (m % 8).toNat x))
  refine (Turn_any _ _ _ _ _ _ _).mono ?_
  rintro e w1 ⟨rfl, hb⟩
  rw [HM.out]
  unfold Ret5
  (try simp only)
  obtain ⟨ka2, kb2⟩ := bcell hb
  have c2_0_0 : w1.cell? ⟨w.heap.size + 1, 0, none⟩ = some (.int .i64 0) := (ka2 _ _ (by first | omega | (simp; done) | (simp; omega))).trans (by go_cell)
  have f2_0_0 : w1.frozen? ⟨w.heap.size + 1, 0, none⟩ = false := (kb2 _ _ (by first | omega | (simp; done) | (simp; omega))).trans (by go_cell)
  have c2_0_1 : w1.cell? ⟨w.heap.size + 1, 1, none⟩ = some (.slice none 0 0) := (ka2 _ _ (by first | omega | (simp; done) | (simp; omega))).trans (by go_cell)
  have f2_0_1 : w1.frozen? ⟨w.heap.size + 1, 1, none⟩ = false := (kb2 _ _ (by first | omega | (simp; done) | (simp; omega))).trans (by go_cell)
  have D1 : Below w.heap.size w w1 := Below.trans (by go_grown) (hb.mono (by first | omega | (simp; done) | (simp; omega)))
  have s2_0 : w.heap.size + 1 < w1.heap.size := by have hs := hb.size; (try simp at hs); omega
  clear hb ka2 kb2
  have sA : w.heap.size < w1.heap.size := by omega
  have sB : w.heap.size < w1.heap.size + 1 := by omega
  have sC : w.heap.size + 1 < w1.heap.size + 1 := by omega
  go_wp2_with fail
  refine bodyPost_ret (v := .agg #[.int .i64 1, .slice (some ⟨w1.heap.size + 1, 0, none⟩) 1 1]) (by simp [results, Try.results56, go_sem, *]) rfl ⟨⟨w1.heap.size + 1, rfl, ?_, by have := D1.size; omega⟩, by go_grown⟩
  refine Numw.of1 (a := x0) (b := x1) (c := x2) (d := x3) (k := x4) (by refine ⟨⟨?_, ?_, ?_, ?_, ?_⟩, ?_, ?_, ?_, ?_, ?_⟩ <;> go_cell) ?_
  show (chgS N1 (fun v => rotn (m % 8).toNat v)).1 = _
  exact congrArg Prod.fst HM.out
end Go.Proofs.Ytjodjfllgofkaaa
