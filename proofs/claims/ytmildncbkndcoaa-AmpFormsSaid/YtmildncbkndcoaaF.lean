import Derived.Test.YtmildncbkndcoaaE
import Derived.Deep.RegionHeld3
namespace Go.Proofs.Ytmildncbkndcoaa
open Go.RowKit Amp
attribute [local go_sem] ix0 ix1 ix2 ix3 jx0 jx1 jx2 jx3
attribute [local go_sem high] run_eqNum run_neNum

set_option maxHeartbeats 1000000 in
theorem awake_any (w : World) :
    Calls Try.prog 19 #[] w fun e w' => e = .returned (.bool true) ∧ Below w.heap.size w w' := by
  go_enter Try.func19, Try.ntmps19
  go_wp2_with fail
  refine (Make_any _ _ _ _ _ _).mono ?_
  rintro e w1 ⟨rfl, hb1⟩
  rw [show makeS ⟨1, 0, 1, 0⟩ 1 = (⟨⟨0, 1, 0, 0⟩, 0⟩, 0) from by decide]
  unfold Ret5
  simp only
  go_wp2_with fail
  have hs1 := hb1.size
  go_returns
  exact ⟨rfl, by go_grown⟩

theorem keep15 {w0 wc w' : World} {sz n1 n2 n3 : Nat} {a1 a2 a3 a4 a5 b1 b2 b3 b4 b5 c1 c2 c3 c4 c5 : Int} (hb : Below wc.heap.size wc w') (hn1 : n1 < sz) (hn2 : n2 < sz) (hn3 : n3 < sz) (h0 : w0.heap.size ≤ sz)
    (h : (wc.cell? ⟨n1, 0, none⟩ = some (.int .i64 a1) ∧ wc.cell? ⟨n1, 1, none⟩ = some (.int .i64 a2) ∧ wc.cell? ⟨n1, 2, none⟩ = some (.int .i64 a3) ∧ wc.cell? ⟨n1, 3, none⟩ = some (.int .i64 a4) ∧ wc.cell? ⟨n1, 4, none⟩ = some (.int .i64 a5)) ∧ (wc.cell? ⟨n2, 0, none⟩ = some (.int .i64 b1) ∧ wc.cell? ⟨n2, 1, none⟩ = some (.int .i64 b2) ∧ wc.cell? ⟨n2, 2, none⟩ = some (.int .i64 b3) ∧ wc.cell? ⟨n2, 3, none⟩ = some (.int .i64 b4) ∧ wc.cell? ⟨n2, 4, none⟩ = some (.int .i64 b5)) ∧ (wc.cell? ⟨n3, 0, none⟩ = some (.int .i64 c1) ∧ wc.cell? ⟨n3, 1, none⟩ = some (.int .i64 c2) ∧ wc.cell? ⟨n3, 2, none⟩ = some (.int .i64 c3) ∧ wc.cell? ⟨n3, 3, none⟩ = some (.int .i64 c4) ∧ wc.cell? ⟨n3, 4, none⟩ = some (.int .i64 c5)) ∧ Below w0.heap.size w0 wc ∧ sz ≤ wc.heap.size) : (w'.cell? ⟨n1, 0, none⟩ = some (.int .i64 a1) ∧ w'.cell? ⟨n1, 1, none⟩ = some (.int .i64 a2) ∧ w'.cell? ⟨n1, 2, none⟩ = some (.int .i64 a3) ∧ w'.cell? ⟨n1, 3, none⟩ = some (.int .i64 a4) ∧ w'.cell? ⟨n1, 4, none⟩ = some (.int .i64 a5)) ∧ (w'.cell? ⟨n2, 0, none⟩ = some (.int .i64 b1) ∧ w'.cell? ⟨n2, 1, none⟩ = some (.int .i64 b2) ∧ w'.cell? ⟨n2, 2, none⟩ = some (.int .i64 b3) ∧ w'.cell? ⟨n2, 3, none⟩ = some (.int .i64 b4) ∧ w'.cell? ⟨n2, 4, none⟩ = some (.int .i64 b5)) ∧ (w'.cell? ⟨n3, 0, none⟩ = some (.int .i64 c1) ∧ w'.cell? ⟨n3, 1, none⟩ = some (.int .i64 c2) ∧ w'.cell? ⟨n3, 2, none⟩ = some (.int .i64 c3) ∧ w'.cell? ⟨n3, 3, none⟩ = some (.int .i64 c4) ∧ w'.cell? ⟨n3, 4, none⟩ = some (.int .i64 c5)) ∧ Below w0.heap.size w0 w' ∧ sz ≤ w'.heap.size := by
  obtain ⟨h1, h2, h3, h4, h5⟩ := h
  obtain ⟨k1, _⟩ := bcell hb
  have e1 := fun o => k1 n1 o (by omega)
  have e2 := fun o => k1 n2 o (by omega)
  have e3 := fun o => k1 n3 o (by omega)
  have := hb.size
  exact ⟨by simpa only [e1] using h1, by simpa only [e2] using h2, by simpa only [e3] using h3, h4.trans (hb.mono (by omega)), by omega⟩
theorem res5 (m : Nm × Int) : ∃ x y z u v er, Hid (m = (⟨⟨x, y, z, u⟩, v⟩, er)) := by
  obtain ⟨⟨⟨x, y, z, u⟩, v⟩, er⟩ := m
  exact ⟨x, y, z, u, v, er, rfl⟩
set_option maxHeartbeats 2000000 in
theorem AmpForms_any (a b c d k p q r s n : Int) (w : World) :
    Calls Try.prog 3 #[.agg #[.int .i64 a, .int .i64 b, .int .i64 c, .int .i64 d, .int .i64 k], .agg #[.int .i64 p, .int .i64 q, .int .i64 r, .int .i64 s], .int .i64 n] w fun e w' => e = .returned (.bool true) ∧ Below w.heap.size w w' := by
  go_enter Try.func3, Try.ntmps3
  go_wp2_with fail
  refine (Make_any _ _ _ _ _ _).mono ?_
  rintro e w1 ⟨rfl, hb1⟩
  have A1 : Has5 w1 w.heap.size a b c d k := Has5.keep (by refine ⟨⟨?_, ?_, ?_, ?_, ?_⟩, ?_, ?_, ?_, ?_, ?_⟩ <;> go_cell) hb1 (by simp; omega)
  have B1 : Has4 w1 (w.heap.size + 1) p q r s := Has4.keep (by refine ⟨⟨?_, ?_, ?_, ?_⟩, ?_, ?_, ?_, ?_⟩ <;> go_cell) hb1 (by simp)
  have hs1 : w.heap.size + 2 ≤ w1.heap.size := by have := hb1.size; simp at this; omega
  have C1 : Below w.heap.size w w1 := Below.trans (by go_grown) (hb1.mono (by simp; omega))
  clear hb1
  obtain ⟨x, y, z, u, v, er, HM⟩ := res5 (makeS ⟨p, q, r, s⟩ n)
  rw [HM.out]
  unfold Ret5
  simp only
  have P1 := A1
  have P2 := B1
  obtain ⟨⟨c0, c1, c2, c3, c4⟩, f0, f1, f2, f3, f4⟩ := P1
  obtain ⟨⟨g0, g1, g2, g3⟩, e0, e1, e2, e3⟩ := P2
  have hl1 : w.heap.size < w1.heap.size := by omega
  have hl2 : w.heap.size + 1 < w1.heap.size := by omega
  go_wp2_with fail
  refine (rMake_any _ _ _ _ _ _).mono ?_
  rintro e w2 ⟨rfl, hb2⟩
  have A2 : Has5 w2 w.heap.size a b c d k := Has5.keep (by refine ⟨⟨?_, ?_, ?_, ?_, ?_⟩, ?_, ?_, ?_, ?_, ?_⟩ <;> go_cell) hb2 (by simp; omega)
  have B2 : Has5 w2 w1.heap.size x y z u v := Has5.keep (by refine ⟨⟨?_, ?_, ?_, ?_, ?_⟩, ?_, ?_, ?_, ?_, ?_⟩ <;> go_cell) hb2 (by simp)
  have hs2 : w1.heap.size + 1 ≤ w2.heap.size := by have := hb2.size; simp at this; omega
  have C2 : Below w.heap.size w w2 := Below.trans (by go_grown) (hb2.mono (by simp; omega))
  rw [HM.out]
  unfold Ret5
  simp only
  clear hb2 A1 B1 C1 c0 c1 c2 c3 c4 f0 f1 f2 f3 f4 g0 g1 g2 g3 e0 e1 e2 e3
  have P1 := A2
  have P2 := B2
  obtain ⟨⟨c0, c1, c2, c3, c4⟩, f0, f1, f2, f3, f4⟩ := P1
  obtain ⟨⟨g0, g1, g2, g3, g4⟩, e0, e1, e2, e3, e4⟩ := P2
  have hl3 : w.heap.size < w2.heap.size := by omega
  have hl4 : w1.heap.size < w2.heap.size := by omega
  obtain ⟨V, HV⟩ : ∃ V, Hid (vld ⟨⟨a, b, c, d⟩, k⟩ = V) := ⟨_, rfl⟩
  go_wp2_with fail
  obtain ⟨w3, hw3⟩ : ∃ w3, w3 = w2.alloc (.cells #[.int .i64 x, .int .i64 y, .int .i64 z, .int .i64 u, .int .i64 v] 24) := ⟨_, rfl⟩
  rw [← hw3]
  have A3 : Has5 w3 w.heap.size a b c d k := by rw [hw3]; refine ⟨⟨?_, ?_, ?_, ?_, ?_⟩, ?_, ?_, ?_, ?_, ?_⟩ <;> go_cell
  have B3 : Has5 w3 w1.heap.size x y z u v := by rw [hw3]; refine ⟨⟨?_, ?_, ?_, ?_, ?_⟩, ?_, ?_, ?_, ?_, ?_⟩ <;> go_cell
  have D3 : Has5 w3 w2.heap.size x y z u v := by rw [hw3]; refine ⟨⟨?_, ?_, ?_, ?_, ?_⟩, ?_, ?_, ?_, ?_, ?_⟩ <;> go_cell
  have C3 : Below w.heap.size w w3 := by rw [hw3]; go_grown
  have hs3 : w2.heap.size + 1 ≤ w3.heap.size := by rw [hw3]; simp
  clear hw3 A2 B2 C2 c0 c1 c2 c3 c4 f0 f1 f2 f3 f4 g0 g1 g2 g3 g4 e0 e1 e2 e3 e4
  have hS := Lib.hid (And.intro A3.1 (And.intro B3.1 (And.intro D3.1 (And.intro C3.drew hs3))))
  have q1 : w.heap.size < w2.heap.size + 1 := by omega
  have q2 : w1.heap.size < w2.heap.size + 1 := by omega
  have q3 : w2.heap.size < w2.heap.size + 1 := by omega
  have q4 : w.heap.size ≤ w2.heap.size + 1 := by omega
  clear A3 B3 D3 C3 hs3
  go_region_held3 (fun w' => (w'.cell? ⟨w.heap.size, 0, none⟩ = some (.int .i64 a) ∧ w'.cell? ⟨w.heap.size, 1, none⟩ = some (.int .i64 b) ∧ w'.cell? ⟨w.heap.size, 2, none⟩ = some (.int .i64 c) ∧ w'.cell? ⟨w.heap.size, 3, none⟩ = some (.int .i64 d) ∧ w'.cell? ⟨w.heap.size, 4, none⟩ = some (.int .i64 k)) ∧ (w'.cell? ⟨w1.heap.size, 0, none⟩ = some (.int .i64 x) ∧ w'.cell? ⟨w1.heap.size, 1, none⟩ = some (.int .i64 y) ∧ w'.cell? ⟨w1.heap.size, 2, none⟩ = some (.int .i64 z) ∧ w'.cell? ⟨w1.heap.size, 3, none⟩ = some (.int .i64 u) ∧ w'.cell? ⟨w1.heap.size, 4, none⟩ = some (.int .i64 v)) ∧ (w'.cell? ⟨w2.heap.size, 0, none⟩ = some (.int .i64 x) ∧ w'.cell? ⟨w2.heap.size, 1, none⟩ = some (.int .i64 y) ∧ w'.cell? ⟨w2.heap.size, 2, none⟩ = some (.int .i64 z) ∧ w'.cell? ⟨w2.heap.size, 3, none⟩ = some (.int .i64 u) ∧ w'.cell? ⟨w2.heap.size, 4, none⟩ = some (.int .i64 v)) ∧ Below w.heap.size w w' ∧ w2.heap.size + 1 ≤ w'.heap.size)
    (first | exact HS | exact hS.out)
    (first | (go_at_call 17; refine (Valid_any _ _ _ _ _ _).mono ?_; rintro e w' ⟨rfl, hb⟩; rw [HV.out]; have HS := keep15 hb q1 q2 q3 q4 (by go_split_ands; refine ⟨⟨?_, ?_, ?_, ?_, ?_⟩, ⟨?_, ?_, ?_, ?_, ?_⟩, ⟨?_, ?_, ?_, ?_, ?_⟩, ?_, ?_⟩ <;> assumption)) | (go_at_call 18; refine (rValid_any _ _ _ _ _ _).mono ?_; rintro e w' ⟨rfl, hb⟩; rw [HV.out]; have HS := keep15 hb q1 q2 q3 q4 (by go_split_ands; refine ⟨⟨?_, ?_, ?_, ?_, ?_⟩, ⟨?_, ?_, ?_, ?_, ?_⟩, ⟨?_, ?_, ?_, ?_, ?_⟩, ?_, ?_⟩ <;> assumption)) | (go_at_call 19; refine (awake_any _).mono ?_; rintro e w' ⟨rfl, hb⟩; have HS := keep15 hb q1 q2 q3 q4 (by go_split_ands; refine ⟨⟨?_, ?_, ?_, ?_, ?_⟩, ⟨?_, ?_, ?_, ?_, ?_⟩, ⟨?_, ?_, ?_, ?_, ?_⟩, ?_, ?_⟩ <;> assumption)))
  all_goals
    go_wp2_with fail
    go_returns
    go_split_ands
    exact ⟨rfl, by assumption⟩
end Go.Proofs.Ytmildncbkndcoaa
