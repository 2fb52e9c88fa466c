import Derived.Test.YtkcbkcgampoclaaE
import Derived.Deep.RegionHeld3
namespace Go.Proofs.Ytkcbkcgampoclaa
open Go.RowKit Amp
attribute [local go_sem] ix0 ix1 ix2 ix3
attribute [local go_sem high] run_eqNum run_neNum

theorem keep15 {w0 wc w' : World} {sz n1 n2 n3 : Nat} {a1 a2 a3 a4 a5 b1 b2 b3 b4 b5 c1 c2 c3 c4 c5 : Int} (hb : Below wc.heap.size wc w') (hn1 : n1 < sz) (hn2 : n2 < sz) (hn3 : n3 < sz) (h0 : w0.heap.size ≤ sz)
    (h : (wc.cell? ⟨n1, 0, none⟩ = some (.int .i64 a1) ∧ wc.cell? ⟨n1, 1, none⟩ = some (.int .i64 a2) ∧ wc.cell? ⟨n1, 2, none⟩ = some (.int .i64 a3) ∧ wc.cell? ⟨n1, 3, none⟩ = some (.int .i64 a4) ∧ wc.cell? ⟨n1, 4, none⟩ = some (.int .i64 a5)) ∧ (wc.cell? ⟨n2, 0, none⟩ = some (.int .i64 b1) ∧ wc.cell? ⟨n2, 1, none⟩ = some (.int .i64 b2) ∧ wc.cell? ⟨n2, 2, none⟩ = some (.int .i64 b3) ∧ wc.cell? ⟨n2, 3, none⟩ = some (.int .i64 b4) ∧ wc.cell? ⟨n2, 4, none⟩ = some (.int .i64 b5)) ∧ (wc.cell? ⟨n3, 0, none⟩ = some (.int .i64 c1) ∧ wc.cell? ⟨n3, 1, none⟩ = some (.int .i64 c2) ∧ wc.cell? ⟨n3, 2, none⟩ = some (.int .i64 c3) ∧ wc.cell? ⟨n3, 3, none⟩ = some (.int .i64 c4) ∧ wc.cell? ⟨n3, 4, none⟩ = some (.int .i64 c5)) ∧ Below w0.heap.size w0 wc ∧ sz ≤ wc.heap.size) : (w'.cell? ⟨n1, 0, none⟩ = some (.int .i64 a1) ∧ w'.cell? ⟨n1, 1, none⟩ = some (.int .i64 a2) ∧ w'.cell? ⟨n1, 2, none⟩ = some (.int .i64 a3) ∧ w'.cell? ⟨n1, 3, none⟩ = some (.int .i64 a4) ∧ w'.cell? ⟨n1, 4, none⟩ = some (.int .i64 a5)) ∧ (w'.cell? ⟨n2, 0, none⟩ = some (.int .i64 b1) ∧ w'.cell? ⟨n2, 1, none⟩ = some (.int .i64 b2) ∧ w'.cell? ⟨n2, 2, none⟩ = some (.int .i64 b3) ∧ w'.cell? ⟨n2, 3, none⟩ = some (.int .i64 b4) ∧ w'.cell? ⟨n2, 4, none⟩ = some (.int .i64 b5)) ∧ (w'.cell? ⟨n3, 0, none⟩ = some (.int .i64 c1) ∧ w'.cell? ⟨n3, 1, none⟩ = some (.int .i64 c2) ∧ w'.cell? ⟨n3, 2, none⟩ = some (.int .i64 c3) ∧ w'.cell? ⟨n3, 3, none⟩ = some (.int .i64 c4) ∧ w'.cell? ⟨n3, 4, none⟩ = some (.int .i64 c5)) ∧ Below w0.heap.size w0 w' ∧ sz ≤ w'.heap.size := by
  obtain ⟨h1, h2, h3, h4, h5⟩ := h
  obtain ⟨k1, _⟩ := bcell hb
  have e1 := fun o => k1 n1 o (by omega)
  have e2 := fun o => k1 n2 o (by omega)
  have e3 := fun o => k1 n3 o (by omega)
  have := hb.size
  exact ⟨by simpa only [e1] using h1, by simpa only [e2] using h2, by simpa only [e3] using h3, h4.trans (hb.mono (by omega)), by omega⟩
theorem res5 (m : Nm × Int) : ∃ x y z u v er, Hid (m = (⟨⟨x, y, z, u⟩, v⟩, er)) := by
  obtain ⟨⟨⟨x, y, z, u⟩, v⟩, er⟩ := m
  exact ⟨x, y, z, u, v, er, rfl⟩
end Go.Proofs.Ytkcbkcgampoclaa
