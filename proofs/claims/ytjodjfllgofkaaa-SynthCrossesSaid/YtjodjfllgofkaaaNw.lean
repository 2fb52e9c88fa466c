import Derived.Test.YtjodjfllgofkaaaFg
import Derived.Test.YtjodjfllgofkaaaLst
namespace Amp
def updN (f : Nat → Nm) (j : Nat) (z : Nm) : Nat → Nm := fun k => if k = j then z else f k
theorem updN_at (f : Nat → Nm) (j : Nat) (z : Nm) : updN f j z j = z := by unfold updN; rw [if_pos rfl]
theorem updN_ne (f : Nat → Nm) {j k : Nat} (z : Nm) (h : ¬ k = j) : updN f j z k = f k := by unfold updN; rw [if_neg h]
end Amp
namespace Go.Proofs.Ytjodjfllgofkaaa
open Go.RowKit Amp
attribute [local go_sem] ix0 ix1 ix2 ix3 jx0 jx1 jx2 jx3
attribute [local go_sem high] run_eqNum run_neNum
/-- Block g is n numbers of the call's own. -/
def Numw (w : World) (g n : Nat) (f : Nat → Nm) : Prop := ∀ i, i < n → NumAt w g (i * 5) (f i) ∧ w.frozen? ⟨g, i * 5, none⟩ = false ∧ w.frozen? ⟨g, i * 5 + 1, none⟩ = false ∧ w.frozen? ⟨g, i * 5 + 2, none⟩ = false ∧ w.frozen? ⟨g, i * 5 + 3, none⟩ = false ∧ w.frozen? ⟨g, i * 5 + 4, none⟩ = false
theorem Numw.nums {w : World} {g n : Nat} {f : Nat → Nm} (h : Numw w g n f) : Nums w (some ⟨g, 0, none⟩) n f := fun _ => ⟨g, 0, rfl, fun i hi => by rw [Nat.zero_add]; exact (h i hi).1⟩
theorem Numw.keep {w w1 : World} {g n : Nat} {f : Nat → Nm} (h : Numw w g n f) (hb : Below w.heap.size w w1) : Numw w1 g n f := by
  intro i hi
  obtain ⟨h1, h2, h3, h4, h5, h6⟩ := h i hi
  have hB : g < w.heap.size := World.block_lt_of_cell? w _ h1.1
  obtain ⟨k1, k2⟩ := bcell hb
  unfold NumAt at *
  simp only [k1 _ _ hB, k2 _ _ hB]
  exact ⟨h1, h2, h3, h4, h5, h6⟩
theorem Numw.congr {w : World} {g n : Nat} {f f' : Nat → Nm} (h : Numw w g n f) (e : ∀ i, i < n → f i = f' i) : Numw w g n f' := fun i hi => by rw [← e i hi]; exact h i hi
theorem Numw.of_own {w : World} {base : Nat} {e : TypeId} {g n cap : Nat} {f : Nat → Nm} {xs : List Value} (h : w.ownsRow base e 5 (.slice (some ⟨g, 0, none⟩) n cap) n xs) (hx : ∀ i, i < n → ∀ t, t < 5 → xs[i * 5 + t]? = (cellsOf (f i))[t]?) : Numw w g n f := by
  intro i hi
  have hc := fun t (ht : t < 5) => (h.cellAt (i * 5 + t) (by omega)).trans (hx i hi t ht)
  exact ⟨⟨hc 0 (by omega), hc 1 (by omega), hc 2 (by omega), hc 3 (by omega), hc 4 (by omega)⟩, h.frozenAt _, h.frozenAt _, h.frozenAt _, h.frozenAt _, h.frozenAt _⟩
theorem Numw.other {w : World} {g n : Nat} {f : Nat → Nm} (h : Numw w g n f) {m k : Nat} {v : Value} (hne : ¬ m = g) : Numw (w.setCell ⟨m, k, none⟩ v) g n f := by
  intro i hi
  obtain ⟨⟨a0, a1, a2, a3, a4⟩, f0, f1, f2, f3, f4⟩ := h i hi
  refine ⟨⟨?_, ?_, ?_, ?_, ?_⟩, ?_, ?_, ?_, ?_, ?_⟩ <;> go_cell
theorem Numw.drew {w : World} {g n : Nat} {f : Nat → Nm} (h : Numw w g n f) : Numw w.drew g n f := h
theorem Numw.alloc {w : World} {g n : Nat} {f : Nat → Nm} (h : Numw w g n f) (o : Obj) : Numw (w.alloc o) g n f := h.keep ((Below.refl _ _).alloc (Nat.le_refl _) _)
theorem store5_far {w : World} {g j k t : Nat} (x0 x1 x2 x3 x4 : Int) (e : ¬ k = j) (ht : t < 5) : (((((w.setCell ⟨g, j * 5, none⟩ (.int .i64 x0)).setCell ⟨g, j * 5 + 1, none⟩ (.int .i64 x1)).setCell ⟨g, j * 5 + 2, none⟩ (.int .i64 x2)).setCell ⟨g, j * 5 + 3, none⟩ (.int .i64 x3)).setCell ⟨g, j * 5 + 4, none⟩ (.int .i64 x4)).cell? ⟨g, k * 5 + t, none⟩ = w.cell? ⟨g, k * 5 + t, none⟩ := by
  have n0 : ¬ j * 5 = k * 5 + t := by omega
  have n1 : ¬ j * 5 + 1 = k * 5 + t := by omega
  have n2 : ¬ j * 5 + 2 = k * 5 + t := by omega
  have n3 : ¬ j * 5 + 3 = k * 5 + t := by omega
  have n4 : ¬ j * 5 + 4 = k * 5 + t := by omega
  go_cell
set_option maxHeartbeats 1000000 in
theorem Numw.store {w : World} {g n : Nat} {f : Nat → Nm} (h : Numw w g n f) {j : Nat} (hj : j < n) (x0 x1 x2 x3 x4 : Int) : Numw (((((w.setCell ⟨g, j * 5, none⟩ (.int .i64 x0)).setCell ⟨g, j * 5 + 1, none⟩ (.int .i64 x1)).setCell ⟨g, j * 5 + 2, none⟩ (.int .i64 x2)).setCell ⟨g, j * 5 + 3, none⟩ (.int .i64 x3)).setCell ⟨g, j * 5 + 4, none⟩ (.int .i64 x4)) g n (updN f j ⟨⟨x0, x1, x2, x3⟩, x4⟩) := by
  obtain ⟨⟨a0, a1, a2, a3, a4⟩, f0, f1, f2, f3, f4⟩ := h j hj
  intro k hk
  by_cases e : k = j
  · subst e
    rw [updN_at]
    refine ⟨⟨?_, ?_, ?_, ?_, ?_⟩, ?_, ?_, ?_, ?_, ?_⟩ <;> go_cell
  · rw [updN_ne _ _ e]
    obtain ⟨⟨b0, b1, b2, b3, b4⟩, g0, g1, g2, g3, g4⟩ := h k hk
    refine ⟨⟨?_, ?_, ?_, ?_, ?_⟩, ?_, ?_, ?_, ?_, ?_⟩
    · exact (store5_far (t := 0) x0 x1 x2 x3 x4 e (by omega)).trans b0
    · exact (store5_far (t := 1) x0 x1 x2 x3 x4 e (by omega)).trans b1
    · exact (store5_far (t := 2) x0 x1 x2 x3 x4 e (by omega)).trans b2
    · exact (store5_far (t := 3) x0 x1 x2 x3 x4 e (by omega)).trans b3
    · exact (store5_far (t := 4) x0 x1 x2 x3 x4 e (by omega)).trans b4
    all_goals go_cell
theorem own_form {w : World} {base : Nat} {e : TypeId} {v : Value} {n : Nat} {xs : List Value} (h : w.ownsRow base e 5 v n xs) (hn : 0 < n) : ∃ g cap, v = .slice (some ⟨g, 0, none⟩) n cap ∧ base ≤ g ∧ n ≤ cap ∧ cap ≤ 9223372036854775807 := by
  rcases h.2 with ⟨_, h0⟩ | ⟨g, cap, cur, rfl, hb, _, hc, hm, _⟩
  · omega
  · exact ⟨g, cap, rfl, hb, hc, hm⟩
/-- A matrix in a block of the call's own. -/
def MatW (B : Nat) (w : World) (e : Ending) (n : Nat) (f : Nat → Nm) : Prop :=
  ∃ g cap, e = .returned (.tuple #[.agg #[.int .i64 n, .slice (some ⟨g, 0, none⟩) (n * n) cap], .int .i64 0]) ∧ Numw w g (n * n) f ∧ B ≤ g ∧ n * n ≤ cap ∧ cap ≤ 9223372036854775807
/-- A matrix, or the error and no matrix. -/
def MatWOr (B : Nat) (w : World) (e : Ending) (n : Nat) (F : Nat → Nm) (er : Int) : Prop :=
  (er = 0 ∧ MatW B w e n F) ∨ (er ≠ 0 ∧ e = .returned (.tuple #[.agg #[.int .i64 0, .slice none 0 0], .int .i64 er]))
end Go.Proofs.Ytjodjfllgofkaaa
