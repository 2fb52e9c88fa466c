import Derived.Test.YtdhlikedjephmaaHf
import Derived.Deep.RegionHeld2
import Derived.Deep.DeepCutAuto
namespace Go.Proofs.Ytdhlikedjephmaa
open Go.RowKit Heat
/-- A square matrix by value: its rows one behind the other. -/
def sqV (n : Int) (L : Nat → Int) : Value := .agg #[.int .i64 n, .int .i64 (L 0), .int .i64 (L 1), .int .i64 (L 2), .int .i64 (L 3), .int .i64 (L 4), .int .i64 (L 5), .int .i64 (L 6), .int .i64 (L 7), .int .i64 (L 8), .int .i64 (L 9), .int .i64 (L 10), .int .i64 (L 11), .int .i64 (L 12), .int .i64 (L 13), .int .i64 (L 14), .int .i64 (L 15), .int .i64 (L 16), .int .i64 (L 17), .int .i64 (L 18), .int .i64 (L 19), .int .i64 (L 20), .int .i64 (L 21), .int .i64 (L 22), .int .i64 (L 23), .int .i64 (L 24)]
def liV (C : Nat → Int) : Value := .agg #[.int .i64 (C 0), .int .i64 (C 1), .int .i64 (C 2), .int .i64 (C 3), .int .i64 (C 4)]
/-- Block g is a square matrix of the call's own. -/
def Sqw (w : World) (g : Nat) (n : Int) (L : Nat → Int) : Prop := w.cell? ⟨g, 0, none⟩ = some (.int .i64 n) ∧ w.frozen? ⟨g, 0, none⟩ = false ∧ ∀ j, j < 25 → w.cell? ⟨g, 1 + j, none⟩ = some (.int .i64 (L j)) ∧ w.frozen? ⟨g, 1 + j, none⟩ = false
theorem lt25 {P : Nat → Prop} (h : P 0 ∧ P 1 ∧ P 2 ∧ P 3 ∧ P 4 ∧ P 5 ∧ P 6 ∧ P 7 ∧ P 8 ∧ P 9 ∧ P 10 ∧ P 11 ∧ P 12 ∧ P 13 ∧ P 14 ∧ P 15 ∧ P 16 ∧ P 17 ∧ P 18 ∧ P 19 ∧ P 20 ∧ P 21 ∧ P 22 ∧ P 23 ∧ P 24) : ∀ j, j < 25 → P j := by
  intro j hj
  have : j = 0 ∨ j = 1 ∨ j = 2 ∨ j = 3 ∨ j = 4 ∨ j = 5 ∨ j = 6 ∨ j = 7 ∨ j = 8 ∨ j = 9 ∨ j = 10 ∨ j = 11 ∨ j = 12 ∨ j = 13 ∨ j = 14 ∨ j = 15 ∨ j = 16 ∨ j = 17 ∨ j = 18 ∨ j = 19 ∨ j = 20 ∨ j = 21 ∨ j = 22 ∨ j = 23 ∨ j = 24 := by omega
  rcases this with rfl | rfl | rfl | rfl | rfl | rfl | rfl | rfl | rfl | rfl | rfl | rfl | rfl | rfl | rfl | rfl | rfl | rfl | rfl | rfl | rfl | rfl | rfl | rfl | rfl
  · exact h.1
  · exact h.2.1
  · exact h.2.2.1
  · exact h.2.2.2.1
  · exact h.2.2.2.2.1
  · exact h.2.2.2.2.2.1
  · exact h.2.2.2.2.2.2.1
  · exact h.2.2.2.2.2.2.2.1
  · exact h.2.2.2.2.2.2.2.2.1
  · exact h.2.2.2.2.2.2.2.2.2.1
  · exact h.2.2.2.2.2.2.2.2.2.2.1
  · exact h.2.2.2.2.2.2.2.2.2.2.2.1
  · exact h.2.2.2.2.2.2.2.2.2.2.2.2.1
  · exact h.2.2.2.2.2.2.2.2.2.2.2.2.2.1
  · exact h.2.2.2.2.2.2.2.2.2.2.2.2.2.2.1
  · exact h.2.2.2.2.2.2.2.2.2.2.2.2.2.2.2.1
  · exact h.2.2.2.2.2.2.2.2.2.2.2.2.2.2.2.2.1
  · exact h.2.2.2.2.2.2.2.2.2.2.2.2.2.2.2.2.2.1
  · exact h.2.2.2.2.2.2.2.2.2.2.2.2.2.2.2.2.2.2.1
  · exact h.2.2.2.2.2.2.2.2.2.2.2.2.2.2.2.2.2.2.2.1
  · exact h.2.2.2.2.2.2.2.2.2.2.2.2.2.2.2.2.2.2.2.2.1
  · exact h.2.2.2.2.2.2.2.2.2.2.2.2.2.2.2.2.2.2.2.2.2.1
  · exact h.2.2.2.2.2.2.2.2.2.2.2.2.2.2.2.2.2.2.2.2.2.2.1
  · exact h.2.2.2.2.2.2.2.2.2.2.2.2.2.2.2.2.2.2.2.2.2.2.2.1
  · exact h.2.2.2.2.2.2.2.2.2.2.2.2.2.2.2.2.2.2.2.2.2.2.2.2
theorem Sqw.fresh {W : World} {g : Nat} {n : Int} {L : Nat → Int} (hc : W.cell? ⟨g, 0, none⟩ = some (.int .i64 n) ∧ W.cell? ⟨g, 1, none⟩ = some (.int .i64 (L 0)) ∧ W.cell? ⟨g, 2, none⟩ = some (.int .i64 (L 1)) ∧ W.cell? ⟨g, 3, none⟩ = some (.int .i64 (L 2)) ∧ W.cell? ⟨g, 4, none⟩ = some (.int .i64 (L 3)) ∧ W.cell? ⟨g, 5, none⟩ = some (.int .i64 (L 4)) ∧ W.cell? ⟨g, 6, none⟩ = some (.int .i64 (L 5)) ∧ W.cell? ⟨g, 7, none⟩ = some (.int .i64 (L 6)) ∧ W.cell? ⟨g, 8, none⟩ = some (.int .i64 (L 7)) ∧ W.cell? ⟨g, 9, none⟩ = some (.int .i64 (L 8)) ∧ W.cell? ⟨g, 10, none⟩ = some (.int .i64 (L 9)) ∧ W.cell? ⟨g, 11, none⟩ = some (.int .i64 (L 10)) ∧ W.cell? ⟨g, 12, none⟩ = some (.int .i64 (L 11)) ∧ W.cell? ⟨g, 13, none⟩ = some (.int .i64 (L 12)) ∧ W.cell? ⟨g, 14, none⟩ = some (.int .i64 (L 13)) ∧ W.cell? ⟨g, 15, none⟩ = some (.int .i64 (L 14)) ∧ W.cell? ⟨g, 16, none⟩ = some (.int .i64 (L 15)) ∧ W.cell? ⟨g, 17, none⟩ = some (.int .i64 (L 16)) ∧ W.cell? ⟨g, 18, none⟩ = some (.int .i64 (L 17)) ∧ W.cell? ⟨g, 19, none⟩ = some (.int .i64 (L 18)) ∧ W.cell? ⟨g, 20, none⟩ = some (.int .i64 (L 19)) ∧ W.cell? ⟨g, 21, none⟩ = some (.int .i64 (L 20)) ∧ W.cell? ⟨g, 22, none⟩ = some (.int .i64 (L 21)) ∧ W.cell? ⟨g, 23, none⟩ = some (.int .i64 (L 22)) ∧ W.cell? ⟨g, 24, none⟩ = some (.int .i64 (L 23)) ∧ W.cell? ⟨g, 25, none⟩ = some (.int .i64 (L 24))) (hf : W.frozen? ⟨g, 0, none⟩ = false ∧ W.frozen? ⟨g, 1, none⟩ = false ∧ W.frozen? ⟨g, 2, none⟩ = false ∧ W.frozen? ⟨g, 3, none⟩ = false ∧ W.frozen? ⟨g, 4, none⟩ = false ∧ W.frozen? ⟨g, 5, none⟩ = false ∧ W.frozen? ⟨g, 6, none⟩ = false ∧ W.frozen? ⟨g, 7, none⟩ = false ∧ W.frozen? ⟨g, 8, none⟩ = false ∧ W.frozen? ⟨g, 9, none⟩ = false ∧ W.frozen? ⟨g, 10, none⟩ = false ∧ W.frozen? ⟨g, 11, none⟩ = false ∧ W.frozen? ⟨g, 12, none⟩ = false ∧ W.frozen? ⟨g, 13, none⟩ = false ∧ W.frozen? ⟨g, 14, none⟩ = false ∧ W.frozen? ⟨g, 15, none⟩ = false ∧ W.frozen? ⟨g, 16, none⟩ = false ∧ W.frozen? ⟨g, 17, none⟩ = false ∧ W.frozen? ⟨g, 18, none⟩ = false ∧ W.frozen? ⟨g, 19, none⟩ = false ∧ W.frozen? ⟨g, 20, none⟩ = false ∧ W.frozen? ⟨g, 21, none⟩ = false ∧ W.frozen? ⟨g, 22, none⟩ = false ∧ W.frozen? ⟨g, 23, none⟩ = false ∧ W.frozen? ⟨g, 24, none⟩ = false ∧ W.frozen? ⟨g, 25, none⟩ = false) : Sqw W g n L := by
  obtain ⟨c0, c1, c2, c3, c4, c5, c6, c7, c8, c9, c10, c11, c12, c13, c14, c15, c16, c17, c18, c19, c20, c21, c22, c23, c24, c25⟩ := hc
  obtain ⟨f0, f1, f2, f3, f4, f5, f6, f7, f8, f9, f10, f11, f12, f13, f14, f15, f16, f17, f18, f19, f20, f21, f22, f23, f24, f25⟩ := hf
  exact ⟨c0, f0, lt25 ⟨⟨c1, f1⟩, ⟨c2, f2⟩, ⟨c3, f3⟩, ⟨c4, f4⟩, ⟨c5, f5⟩, ⟨c6, f6⟩, ⟨c7, f7⟩, ⟨c8, f8⟩, ⟨c9, f9⟩, ⟨c10, f10⟩, ⟨c11, f11⟩, ⟨c12, f12⟩, ⟨c13, f13⟩, ⟨c14, f14⟩, ⟨c15, f15⟩, ⟨c16, f16⟩, ⟨c17, f17⟩, ⟨c18, f18⟩, ⟨c19, f19⟩, ⟨c20, f20⟩, ⟨c21, f21⟩, ⟨c22, f22⟩, ⟨c23, f23⟩, ⟨c24, f24⟩, ⟨c25, f25⟩⟩⟩
theorem Sqw.keep {w w1 : World} {g : Nat} {n : Int} {L : Nat → Int} (h : Sqw w g n L) (hb : Below w.heap.size w w1) : Sqw w1 g n L := by
  obtain ⟨h0, h1, h2⟩ := h
  have hB : g < w.heap.size := World.block_lt_of_cell? w _ h0
  exact ⟨((bcl hb).1 _ _ hB).trans h0, ((bcl hb).2 _ _ hB).trans h1, fun j hj => ⟨((bcl hb).1 _ _ hB).trans (h2 j hj).1, ((bcl hb).2 _ _ hB).trans (h2 j hj).2⟩⟩
theorem Sqw.store {w : World} {g : Nat} {n : Int} {L : Nat → Int} (h : Sqw w g n L) {m : Nat} (hm : m < 25) (x : Int) : Sqw (w.setCell ⟨g, 1 + m, none⟩ (.int .i64 x)) g n (updI L m x) := by
  obtain ⟨h0, h1, h2⟩ := h
  have hn0 : ¬ 1 + m = 0 := by omega
  obtain ⟨m0, m1⟩ := h2 m hm
  refine ⟨by go_cell, by go_cell, fun j hj => ?_⟩
  by_cases e : j = m
  · subst e
    rw [updI_at]
    exact ⟨by go_cell, by go_cell⟩
  · rw [updI_ne _ _ e]
    obtain ⟨a, b⟩ := h2 j hj
    have hne : ¬ 1 + m = 1 + j := by omega
    exact ⟨by go_cell, by go_cell⟩
def sqL (n : Int) (L : Nat → Int) : List Value := [.int .i64 n, .int .i64 (L 0), .int .i64 (L 1), .int .i64 (L 2), .int .i64 (L 3), .int .i64 (L 4), .int .i64 (L 5), .int .i64 (L 6), .int .i64 (L 7), .int .i64 (L 8), .int .i64 (L 9), .int .i64 (L 10), .int .i64 (L 11), .int .i64 (L 12), .int .i64 (L 13), .int .i64 (L 14), .int .i64 (L 15), .int .i64 (L 16), .int .i64 (L 17), .int .i64 (L 18), .int .i64 (L 19), .int .i64 (L 20), .int .i64 (L 21), .int .i64 (L 22), .int .i64 (L 23), .int .i64 (L 24)]
theorem sqL_len (n : Int) (L : Nat → Int) : (sqL n L).length = 26 := rfl
theorem sqL_one (n : Int) (L : Nat → Int) : ∀ v ∈ sqL n L, v.oneCell' = true := by
  intro v hv
  simp only [sqL, List.mem_cons, List.not_mem_nil, or_false] at hv
  rcases hv with rfl | rfl | rfl | rfl | rfl | rfl | rfl | rfl | rfl | rfl | rfl | rfl | rfl | rfl | rfl | rfl | rfl | rfl | rfl | rfl | rfl | rfl | rfl | rfl | rfl | rfl <;> rfl
theorem Sqw.range {w : World} {b : Nat} {n : Int} {L : Nat → Int} (h : Sqw w b n L) : w.rangeAt b 0 (sqL n L) := by
  intro j v hv
  have hj : j < 26 := (List.getElem?_eq_some_iff.1 hv).1
  rw [Nat.zero_add]
  cases j with
  | zero => exact (Option.some.inj hv) ▸ h.1
  | succ j =>
    have := (h.2.2 j (by omega)).1
    rw [Nat.add_comm] at this
    rw [this]
    exact (lt25 (P := fun j => (sqL n L)[j + 1]? = some (.int .i64 (L j))) ⟨rfl, rfl, rfl, rfl, rfl, rfl, rfl, rfl, rfl, rfl, rfl, rfl, rfl, rfl, rfl, rfl, rfl, rfl, rfl, rfl, rfl, rfl, rfl, rfl, rfl⟩ j (by omega)).symm.trans hv
theorem Sqw.there {w : World} {b : Nat} {n : Int} {L : Nat → Int} (h : Sqw w b n L) : w.there b 0 26 := by
  intro j hj
  rw [Nat.zero_add]
  cases j with
  | zero => exact ⟨by rw [h.1]; rfl, h.2.1⟩
  | succ j =>
    obtain ⟨h1, h2⟩ := h.2.2 j (by omega)
    rw [Nat.add_comm] at h1 h2
    exact ⟨by rw [h1]; rfl, h2⟩
theorem infoSq (n : Int) (L : Nat → Int) : (Try.prog.info? 79).map (·.size) = some (sqL n L).length := by rw [sqL_len]; kernel_rfl
theorem below_setCells {B : Nat} {w w1 : World} (h : Below B w w1) {m : Nat} (hm : B ≤ m) (vs : List Value) (o : Nat) : Below B w (w1.setCells m o vs) := by
  induction vs generalizing w1 o with
  | nil => exact h
  | cons v vs ih => exact ih (h.setCell (p := ⟨m, o, none⟩) (by simpa using hm) v) (o + 1)
theorem results_cell_mid {P : Program} {fn : Func} {p : Tmp} {ty : TypeId} (h : fn.results = #[.cell p ty]) (tmps : Array Value) (w : World) (b o : Nat) (cs : List Value) (d : TypeDesc)
    (hp : tmps.getD p undef = .pointer (some ⟨b, o, none⟩)) (hc : w.rangeAt b o cs) (hu : P.underlying ty = some d) (hd : d.isRow = true) (hi : (P.info? ty).map (·.size) = some cs.length) :
    (results fn tmps).run P w = .ok (.agg cs.toArray) w := by
  have hp' : tmps[p]?.getD undef = .pointer (some ⟨b, o, none⟩) := by simpa using hp
  simp [results, h, hp', asAddr, run_loadVar_mid w b o ty cs d hc hu hd hi]
theorem Sqw.other {w : World} {g : Nat} {n : Int} {L : Nat → Int} (h : Sqw w g n L) {m o : Nat} {v : Value} (hne : ¬ m = g) : Sqw (w.setCell ⟨m, o, none⟩ v) g n L := by
  obtain ⟨h0, h1, h2⟩ := h
  refine ⟨by go_cell, by go_cell, fun j hj => ?_⟩
  obtain ⟨a, b⟩ := h2 j hj
  exact ⟨by go_cell, by go_cell⟩
end Go.Proofs.Ytdhlikedjephmaa
