import Derived.Test.YtdhlikedjephmaaHr
namespace Heat
open Go Go.RowKit
def sumA (f : Nat → Int) : Nat → Int
  | 0 => 0
  | k + 1 => sumA f k + absI (f k)
theorem absI_bd {x : Int} (h : -200 ≤ x ∧ x ≤ 200) : 0 ≤ absI x ∧ absI x ≤ 200 := by unfold absI; omega
theorem sumA_bd {f : Nat → Int} : ∀ {n : Nat}, (∀ j, j < n → -200 ≤ f j ∧ f j ≤ 200) → 0 ≤ sumA f n ∧ sumA f n ≤ 200 * n
  | 0, _ => by unfold sumA; omega
  | n + 1, h => by
    have h1 := sumA_bd (n := n) (fun j hj => h j (by omega))
    have h2 := absI_bd (h n (by omega))
    unfold sumA
    omega
/-- The first i rows of a bank, row by row. -/
def gnL (N i : Nat) (F : Nat → Nat → Int) (j : Nat) : Int := if j / 5 < i ∧ j % 5 < N then F (j / 5) (j % 5) else 0
theorem gnL_next {N i : Nat} {F : Nat → Nat → Int} (hN : N ≤ 5) : putL (gnL N i F) (i * 5) N (F i) 0 = gnL N (i + 1) F := by
  funext j
  unfold putL gnL
  by_cases hr : j / 5 = i
  · by_cases hc : j % 5 < N
    · rw [if_pos (by omega), if_pos (by omega), hr]
      congr 1; omega
    · rw [if_neg (by omega), if_neg (by omega), if_neg (by omega)]
  · by_cases h : j / 5 < i ∧ j % 5 < N
    · rw [if_neg (by omega), if_pos h, if_pos (by omega)]
    · rw [if_neg (by omega), if_neg h, if_neg (by omega)]
/-- The reaches of the first i rows, and m numbers of the next one. -/
def rhL (N i m : Nat) (F : Nat → Nat → Int) (j : Nat) : Int := if j < i then sumA (F j) N else if j = i then sumA (F j) m else 0
theorem rhL_row {N i : Nat} {F : Nat → Nat → Int} : rhL N i N F = rhL N (i + 1) 0 F := by
  funext j
  unfold rhL
  by_cases h : j < i
  · rw [if_pos h, if_pos (by omega)]
  · by_cases e : j = i
    · subst e; rw [if_neg h, if_pos rfl, if_pos (by omega)]
    · rw [if_neg h, if_neg e, if_neg (by omega)]
      by_cases e2 : j = i + 1
      · rw [if_pos e2]; rfl
      · rw [if_neg e2]
def bkL (n : Int) (L R : Nat → Int) : List Value := [.int .i64 n, .int .i64 (L 0), .int .i64 (L 1), .int .i64 (L 2), .int .i64 (L 3), .int .i64 (L 4), .int .i64 (L 5), .int .i64 (L 6), .int .i64 (L 7), .int .i64 (L 8), .int .i64 (L 9), .int .i64 (L 10), .int .i64 (L 11), .int .i64 (L 12), .int .i64 (L 13), .int .i64 (L 14), .int .i64 (L 15), .int .i64 (L 16), .int .i64 (L 17), .int .i64 (L 18), .int .i64 (L 19), .int .i64 (L 20), .int .i64 (L 21), .int .i64 (L 22), .int .i64 (L 23), .int .i64 (L 24), .int .i64 (R 0), .int .i64 (R 1), .int .i64 (R 2), .int .i64 (R 3), .int .i64 (R 4)]
theorem bkL_len (n : Int) (L R : Nat → Int) : (bkL n L R).length = 31 := rfl
theorem bkL_one (n : Int) (L R : Nat → Int) : ∀ v ∈ bkL n L R, v.oneCell' = true := by
  intro v hv
  simp only [bkL, List.mem_cons, List.not_mem_nil, or_false] at hv
  rcases hv with rfl | rfl | rfl | rfl | rfl | rfl | rfl | rfl | rfl | rfl | rfl | rfl | rfl | rfl | rfl | rfl | rfl | rfl | rfl | rfl | rfl | rfl | rfl | rfl | rfl | rfl | rfl | rfl | rfl | rfl | rfl <;> rfl
def reL (R : Nat → Int) : List Value := [.int .i64 (R 0), .int .i64 (R 1), .int .i64 (R 2), .int .i64 (R 3), .int .i64 (R 4)]
end Heat
namespace Go.Proofs.Ytdhlikedjephmaa
open Go.RowKit Heat
theorem rhL_next {N i m : Nat} {F : Nat → Nat → Int} : updI (rhL N i m F) i (sumA (F i) m + absI (F i m)) = rhL N i (m + 1) F := by
  funext j
  unfold updI rhL
  by_cases h : j = i
  · subst h; rw [if_pos rfl, if_neg (by omega), if_pos rfl]; rfl
  · rw [if_neg h, if_neg h, if_neg h]
theorem bkL_eq (n : Int) (L R : Nat → Int) : bkL n L R = sqL n L ++ reL R := rfl
def bkV (n : Int) (L R : Nat → Int) : Value := .agg #[.int .i64 n, .int .i64 (L 0), .int .i64 (L 1), .int .i64 (L 2), .int .i64 (L 3), .int .i64 (L 4), .int .i64 (L 5), .int .i64 (L 6), .int .i64 (L 7), .int .i64 (L 8), .int .i64 (L 9), .int .i64 (L 10), .int .i64 (L 11), .int .i64 (L 12), .int .i64 (L 13), .int .i64 (L 14), .int .i64 (L 15), .int .i64 (L 16), .int .i64 (L 17), .int .i64 (L 18), .int .i64 (L 19), .int .i64 (L 20), .int .i64 (L 21), .int .i64 (L 22), .int .i64 (L 23), .int .i64 (L 24), .int .i64 (R 0), .int .i64 (R 1), .int .i64 (R 2), .int .i64 (R 3), .int .i64 (R 4)]
theorem infoBk (n : Int) (L R : Nat → Int) : (Try.prog.info? 81).map (·.size) = some (bkL n L R).length := by rw [bkL_len]; kernel_rfl
/-- The reaches of a bank, behind its matrix. -/
def Rew (w : World) (g : Nat) (R : Nat → Int) : Prop := ∀ j, j < 5 → w.cell? ⟨g, 26 + j, none⟩ = some (.int .i64 (R j)) ∧ w.frozen? ⟨g, 26 + j, none⟩ = false
def Bkw (w : World) (g : Nat) (n : Int) (L R : Nat → Int) : Prop := Sqw w g n L ∧ Rew w g R
theorem lt5 {P : Nat → Prop} (h : P 0 ∧ P 1 ∧ P 2 ∧ P 3 ∧ P 4) : ∀ j, j < 5 → P j := by
  intro j hj
  rcases (show j = 0 ∨ j = 1 ∨ j = 2 ∨ j = 3 ∨ j = 4 by omega) with rfl | rfl | rfl | rfl | rfl
  · exact h.1
  · exact h.2.1
  · exact h.2.2.1
  · exact h.2.2.2.1
  · exact h.2.2.2.2
theorem Bkw.fresh {W : World} {g : Nat} {n : Int} {L R : Nat → Int} (hc : W.cell? ⟨g, 0, none⟩ = some (.int .i64 n) ∧ W.cell? ⟨g, 1, none⟩ = some (.int .i64 (L 0)) ∧ W.cell? ⟨g, 2, none⟩ = some (.int .i64 (L 1)) ∧ W.cell? ⟨g, 3, none⟩ = some (.int .i64 (L 2)) ∧ W.cell? ⟨g, 4, none⟩ = some (.int .i64 (L 3)) ∧ W.cell? ⟨g, 5, none⟩ = some (.int .i64 (L 4)) ∧ W.cell? ⟨g, 6, none⟩ = some (.int .i64 (L 5)) ∧ W.cell? ⟨g, 7, none⟩ = some (.int .i64 (L 6)) ∧ W.cell? ⟨g, 8, none⟩ = some (.int .i64 (L 7)) ∧ W.cell? ⟨g, 9, none⟩ = some (.int .i64 (L 8)) ∧ W.cell? ⟨g, 10, none⟩ = some (.int .i64 (L 9)) ∧ W.cell? ⟨g, 11, none⟩ = some (.int .i64 (L 10)) ∧ W.cell? ⟨g, 12, none⟩ = some (.int .i64 (L 11)) ∧ W.cell? ⟨g, 13, none⟩ = some (.int .i64 (L 12)) ∧ W.cell? ⟨g, 14, none⟩ = some (.int .i64 (L 13)) ∧ W.cell? ⟨g, 15, none⟩ = some (.int .i64 (L 14)) ∧ W.cell? ⟨g, 16, none⟩ = some (.int .i64 (L 15)) ∧ W.cell? ⟨g, 17, none⟩ = some (.int .i64 (L 16)) ∧ W.cell? ⟨g, 18, none⟩ = some (.int .i64 (L 17)) ∧ W.cell? ⟨g, 19, none⟩ = some (.int .i64 (L 18)) ∧ W.cell? ⟨g, 20, none⟩ = some (.int .i64 (L 19)) ∧ W.cell? ⟨g, 21, none⟩ = some (.int .i64 (L 20)) ∧ W.cell? ⟨g, 22, none⟩ = some (.int .i64 (L 21)) ∧ W.cell? ⟨g, 23, none⟩ = some (.int .i64 (L 22)) ∧ W.cell? ⟨g, 24, none⟩ = some (.int .i64 (L 23)) ∧ W.cell? ⟨g, 25, none⟩ = some (.int .i64 (L 24)) ∧ W.cell? ⟨g, 26, none⟩ = some (.int .i64 (R 0)) ∧ W.cell? ⟨g, 27, none⟩ = some (.int .i64 (R 1)) ∧ W.cell? ⟨g, 28, none⟩ = some (.int .i64 (R 2)) ∧ W.cell? ⟨g, 29, none⟩ = some (.int .i64 (R 3)) ∧ W.cell? ⟨g, 30, none⟩ = some (.int .i64 (R 4))) (hf : W.frozen? ⟨g, 0, none⟩ = false ∧ W.frozen? ⟨g, 1, none⟩ = false ∧ W.frozen? ⟨g, 2, none⟩ = false ∧ W.frozen? ⟨g, 3, none⟩ = false ∧ W.frozen? ⟨g, 4, none⟩ = false ∧ W.frozen? ⟨g, 5, none⟩ = false ∧ W.frozen? ⟨g, 6, none⟩ = false ∧ W.frozen? ⟨g, 7, none⟩ = false ∧ W.frozen? ⟨g, 8, none⟩ = false ∧ W.frozen? ⟨g, 9, none⟩ = false ∧ W.frozen? ⟨g, 10, none⟩ = false ∧ W.frozen? ⟨g, 11, none⟩ = false ∧ W.frozen? ⟨g, 12, none⟩ = false ∧ W.frozen? ⟨g, 13, none⟩ = false ∧ W.frozen? ⟨g, 14, none⟩ = false ∧ W.frozen? ⟨g, 15, none⟩ = false ∧ W.frozen? ⟨g, 16, none⟩ = false ∧ W.frozen? ⟨g, 17, none⟩ = false ∧ W.frozen? ⟨g, 18, none⟩ = false ∧ W.frozen? ⟨g, 19, none⟩ = false ∧ W.frozen? ⟨g, 20, none⟩ = false ∧ W.frozen? ⟨g, 21, none⟩ = false ∧ W.frozen? ⟨g, 22, none⟩ = false ∧ W.frozen? ⟨g, 23, none⟩ = false ∧ W.frozen? ⟨g, 24, none⟩ = false ∧ W.frozen? ⟨g, 25, none⟩ = false ∧ W.frozen? ⟨g, 26, none⟩ = false ∧ W.frozen? ⟨g, 27, none⟩ = false ∧ W.frozen? ⟨g, 28, none⟩ = false ∧ W.frozen? ⟨g, 29, none⟩ = false ∧ W.frozen? ⟨g, 30, none⟩ = false) : Bkw W g n L R := by
  obtain ⟨c0, c1, c2, c3, c4, c5, c6, c7, c8, c9, c10, c11, c12, c13, c14, c15, c16, c17, c18, c19, c20, c21, c22, c23, c24, c25, c26, c27, c28, c29, c30⟩ := hc
  obtain ⟨f0, f1, f2, f3, f4, f5, f6, f7, f8, f9, f10, f11, f12, f13, f14, f15, f16, f17, f18, f19, f20, f21, f22, f23, f24, f25, f26, f27, f28, f29, f30⟩ := hf
  exact ⟨Sqw.fresh ⟨c0, c1, c2, c3, c4, c5, c6, c7, c8, c9, c10, c11, c12, c13, c14, c15, c16, c17, c18, c19, c20, c21, c22, c23, c24, c25⟩ ⟨f0, f1, f2, f3, f4, f5, f6, f7, f8, f9, f10, f11, f12, f13, f14, f15, f16, f17, f18, f19, f20, f21, f22, f23, f24, f25⟩, lt5 ⟨⟨c26, f26⟩, ⟨c27, f27⟩, ⟨c28, f28⟩, ⟨c29, f29⟩, ⟨c30, f30⟩⟩⟩
theorem Rew.keep {w w1 : World} {g : Nat} {R : Nat → Int} (h : Rew w g R) (hb : Below w.heap.size w w1) : Rew w1 g R := by
  have hB : g < w.heap.size := World.block_lt_of_cell? w _ (h 0 (by omega)).1
  exact fun j hj => ⟨((bcl hb).1 _ _ hB).trans (h j hj).1, ((bcl hb).2 _ _ hB).trans (h j hj).2⟩
theorem Rew.other {w : World} {g : Nat} {R : Nat → Int} (h : Rew w g R) {m o : Nat} {v : Value} (hne : ¬ m = g) : Rew (w.setCell ⟨m, o, none⟩ v) g R := by
  intro j hj
  obtain ⟨a, b⟩ := h j hj
  exact ⟨by go_cell, by go_cell⟩
theorem Rew.front {w : World} {g : Nat} {R : Nat → Int} (h : Rew w g R) {o : Nat} {v : Value} (ho : o < 26) : Rew (w.setCell ⟨g, o, none⟩ v) g R := by
  intro j hj
  obtain ⟨a, b⟩ := h j hj
  have hne : ¬ o = 26 + j := by omega
  exact ⟨by go_cell, by go_cell⟩
theorem Rew.fronts {g : Nat} {R : Nat → Int} : ∀ (vs : List Value) {w : World} {o : Nat}, Rew w g R → o + vs.length ≤ 26 → Rew (w.setCells g o vs) g R
  | [], _, _, h, _ => h
  | v :: vs, w, o, h, ho => by
    rw [World.setCells]
    simp only [List.length_cons] at ho
    exact Rew.fronts vs (h.front (v := v) (by omega)) (by omega)
theorem Rew.store {w : World} {g : Nat} {R : Nat → Int} (h : Rew w g R) {m : Nat} (hm : m < 5) (x : Int) : Rew (w.setCell ⟨g, 26 + m, none⟩ (.int .i64 x)) g (updI R m x) := by
  obtain ⟨m0, m1⟩ := h m hm
  intro j hj
  by_cases e : j = m
  · subst e
    rw [updI_at]
    exact ⟨by go_cell, by go_cell⟩
  · rw [updI_ne _ _ e]
    obtain ⟨a, b⟩ := h j hj
    have hne : ¬ 26 + m = 26 + j := by omega
    exact ⟨by go_cell, by go_cell⟩
theorem Sqw.back {w : World} {g : Nat} {n : Int} {L : Nat → Int} (h : Sqw w g n L) {m : Nat} {v : Value} : Sqw (w.setCell ⟨g, 26 + m, none⟩ v) g n L := by
  obtain ⟨h0, h1, h2⟩ := h
  have hn0 : ¬ 26 + m = 0 := by omega
  refine ⟨by go_cell, by go_cell, fun j hj => ?_⟩
  obtain ⟨a, b⟩ := h2 j hj
  have hne : ¬ 26 + m = 1 + j := by omega
  exact ⟨by go_cell, by go_cell⟩
theorem Bkw.keep {w w1 : World} {g : Nat} {n : Int} {L R : Nat → Int} (h : Bkw w g n L R) (hb : Below w.heap.size w w1) : Bkw w1 g n L R := ⟨h.1.keep hb, h.2.keep hb⟩
theorem Bkw.drew {w : World} {g : Nat} {n : Int} {L R : Nat → Int} (h : Bkw w g n L R) : Bkw w.drew g n L R := h
theorem Bkw.other {w : World} {g : Nat} {n : Int} {L R : Nat → Int} (h : Bkw w g n L R) {m o : Nat} {v : Value} (hne : ¬ m = g) : Bkw (w.setCell ⟨m, o, none⟩ v) g n L R := ⟨h.1.other hne, h.2.other hne⟩
theorem Bkw.others {g b o : Nat} {n : Int} {vs : List Value} {w : World} {L R : Nat → Int} (h : Bkw w g n L R) (hne : ¬ b = g) : Bkw (w.setCells b o vs) g n L R := by
  induction vs generalizing w o with
  | nil => exact h
  | cons v r ih => rw [World.setCells]; exact ih (h.other hne)
theorem Bkw.putL {g : Nat} {n : Int} {F : Nat → Int} (k : Nat) {w : World} {L R : Nat → Int} {m s : Nat} (h : Bkw w g n L R) (hm : m + k ≤ 25) : Bkw (w.setCells g (1 + m) (cutI F s k)) g n (putL L m k F s) R :=
  ⟨h.1.putL k hm, h.2.fronts _ (by rw [cutI_len]; omega)⟩
theorem Bkw.store {w : World} {g : Nat} {n : Int} {L R : Nat → Int} (h : Bkw w g n L R) {m : Nat} (hm : m < 5) (x : Int) : Bkw (w.setCell ⟨g, 26 + m, none⟩ (.int .i64 x)) g n L (updI R m x) := ⟨h.1.back, h.2.store hm x⟩
theorem Bkw.range {w : World} {b : Nat} {n : Int} {L R : Nat → Int} (h : Bkw w b n L R) : w.rangeAt b 0 (bkL n L R) := by
  intro j v hv
  have hj : j < 31 := (List.getElem?_eq_some_iff.1 hv).1
  by_cases h26 : j < 26
  · rw [bkL_eq, List.getElem?_append_left (by rw [sqL_len]; exact h26)] at hv
    exact h.1.range j v hv
  · obtain ⟨i, rfl⟩ : ∃ i, j = 26 + i := ⟨j - 26, by omega⟩
    rw [bkL_eq, List.getElem?_append_right (by rw [sqL_len]; omega), sqL_len, show 26 + i - 26 = i by omega] at hv
    rw [Nat.zero_add, (h.2 i (by omega)).1]
    exact (lt5 (P := fun j => (reL R)[j]? = some (.int .i64 (R j))) ⟨rfl, rfl, rfl, rfl, rfl⟩ i (by omega)).symm.trans hv
theorem Bkw.there {w : World} {b : Nat} {n : Int} {L R : Nat → Int} (h : Bkw w b n L R) : w.there b 0 31 := by
  intro j hj
  by_cases h26 : j < 26
  · exact h.1.there j h26
  · obtain ⟨i, rfl⟩ : ∃ i, j = 26 + i := ⟨j - 26, by omega⟩
    rw [Nat.zero_add]
    obtain ⟨h1, h2⟩ := h.2 i (by omega)
    exact ⟨by rw [h1]; rfl, h2⟩
theorem Rew.range {R : Nat → Int} {g : Nat} : ∀ {w : World}, Rew w g R → w.rangeAt g 26 (reL R) := by
  intro w h j v hv
  have hj : j < 5 := (List.getElem?_eq_some_iff.1 hv).1
  rw [(h j hj).1]
  exact (lt5 (P := fun j => (reL R)[j]? = some (.int .i64 (R j))) ⟨rfl, rfl, rfl, rfl, rfl⟩ j hj).symm.trans hv
/-- A bank is read back from a range that was stored whole. -/
theorem Bkw.of_range {w : World} {g : Nat} {n : Int} {L R : Nat → Int} (h : w.rangeAt g 0 (bkL n L R)) (hf : ∀ j, j < 31 → w.frozen? ⟨g, j, none⟩ = false) : Bkw w g n L R := by
  have hc : ∀ j v, (bkL n L R)[j]? = some v → w.cell? ⟨g, j, none⟩ = some v := fun j v hv => by have := h j v hv; rw [Nat.zero_add] at this; exact this
  refine ⟨⟨hc 0 _ rfl, hf 0 (by omega), fun j hj => ⟨hc (1 + j) _ ?_, hf _ (by omega)⟩⟩, fun j hj => ⟨hc (26 + j) _ ?_, hf _ (by omega)⟩⟩
  · rw [Nat.add_comm]
    exact lt25 (P := fun j => (bkL n L R)[j + 1]? = some (.int .i64 (L j))) ⟨rfl, rfl, rfl, rfl, rfl, rfl, rfl, rfl, rfl, rfl, rfl, rfl, rfl, rfl, rfl, rfl, rfl, rfl, rfl, rfl, rfl, rfl, rfl, rfl, rfl⟩ j hj
  · rw [Nat.add_comm]
    exact lt5 (P := fun j => (bkL n L R)[j + 26]? = some (.int .i64 (R j))) ⟨rfl, rfl, rfl, rfl, rfl⟩ j hj
theorem frozen_setCells (b : Nat) : ∀ (vs : List Value) (o : Nat) (w : World) (x : Addr), (w.setCells b o vs).frozen? x = w.frozen? x
  | [], _, _, _ => rfl
  | v :: vs, o, w, x => by rw [World.setCells, frozen_setCells b vs]; simp
theorem Bkw.whole {w : World} {g : Nat} {n x : Int} {L R M S : Nat → Int} (h : Bkw w g n L R) : Bkw (w.setCells g 0 (bkL x M S)) g x M S := by
  refine Bkw.of_range (World.rangeAt_setCells_same w g 0 (bkL x M S) h.there) fun j hj => ?_
  rw [frozen_setCells]
  have := (h.there j hj).2
  rw [Nat.zero_add] at this
  exact this
/-- The builtin copy of k numbers into a square. -/
theorem copy_in {w : World} {g : Nat} {n : Int} {L F : Nat → Int} {ao : Option Addr} (hd : Sqw w g n L) {m k dl dc sc : Nat} (hs : Ints w ao k F) (hk : 0 < k) (hm : m + k ≤ 25) (hmin : k = Nat.min k dl) :
    (Builtin.copy_ #[24, 24] 3 #[.slice (some ⟨g, 1 + m, none⟩) dl dc, .slice ao k sc]).run Try.prog w = .ok (goInt k) (w.setCells g (1 + m) (cutI F 0 k)) := by
  have hl := cutI_len F k 0
  obtain ⟨b, o, rfl, hc⟩ := hs hk
  refine (run_copy_cells (P := Try.prog) w 24 24 3 3 g (1 + m) dl dc ⟨b, o, none⟩ k sc (cutI F 0 k) Try.underlying24 (by kernel_rfl) (by rw [hl]; exact hmin) ?_ ?_ ?_ (cutI_one F k 0)).trans (by rw [hl])
  · intro j v hj
    have hlt : j < k := by obtain ⟨h, _⟩ := List.getElem?_eq_some_iff.1 hj; rw [hl] at h; exact h
    rw [cutI_at F k 0 j hlt] at hj
    obtain rfl := Option.some.inj hj
    rw [Nat.zero_add]
    have ha : (⟨b, o, none⟩ : Addr).add j = ⟨b, o + j, none⟩ := by
      unfold Addr.add
      split
      · subst j; rfl
      · rfl
    rw [ha]
    exact hc j hlt
  · intro j hj
    have := (hd.2.2 (m + j) (by rw [hl] at hj; omega)).1
    rw [← Nat.add_assoc] at this
    rw [this]; rfl
  · intro j hj
    have := (hd.2.2 (m + j) (by rw [hl] at hj; omega)).2
    rw [← Nat.add_assoc] at this
    exact this
end Go.Proofs.Ytdhlikedjephmaa
