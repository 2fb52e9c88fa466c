import Derived.Test.YtkkcnhhfdicppaaTe7
namespace Lay
variable {op : Int → Int → Bool} {M B p q : Int} {F : Int → Int → Int → Option Int}
/-- In the direction that the route takes, the table keeps the least cost. -/
theorem step_best (h : Fin7 op M B p q F) (hM : 1 ≤ M) (hB : 0 ≤ B) (hop : op p q = true) {x y i : Int} (hd : (chp F B x y i).1 ≠ -1) :
    op (nx x (chp F B x y i).1) (ny y (chp F B x y i).1) = true ∧ M + bd B i (chp F B x y i).1 + tS F B p q (nx x (chp F B x y i).1) (ny y (chp F B x y i).1) (chp F B x y i).1 = (chp F B x y i).2 := by
  obtain ⟨hr, hf, _⟩ := chp_is hd
  by_cases ht : nx x (chp F B x y i).1 = p ∧ ny y (chp F B x y i).1 = q
  · refine ⟨by rw [ht.1, ht.2]; exact hop, ?_⟩
    have l1 := ((h _ _ _).1 _ hf).2 _ (Wk.base _ _ _ hr.1 hr.2 (h.can hf).1 ht.1 ht.2)
    have l2 := (((h _ _ _).1 _ hf).1).low (by omega) hB
    unfold tS
    rw [if_pos ht]
    omega
  · obtain ⟨g1, g2⟩ := h.goes (x := x) (y := y) (i := i) (d := (chp F B x y i).1) (l := (chp F B x y i).2) rfl hd ht
    obtain ⟨_, gf, _⟩ := chp_is g1
    refine ⟨(h.can gf).1, ?_⟩
    unfold tS
    rw [if_neg ht, if_neg g1, g2]
    omega
/-- In a direction before it, the table does not. -/
theorem step_before (h : Fin7 op M B p q F) (hM : 1 ≤ M) (hB : 0 ≤ B) (h8 : ∀ x y d v, F x y d = some v → v ≤ 8000000) (hB9 : B ≤ 1000) {x y i d : Int} (hd : (chp F B x y i).1 ≠ -1) (h0 : 0 ≤ d) (hl : d < (chp F B x y i).1) (ho : op x y = true) :
    M + bd B i d + tS F B p q (nx x d) (ny y d) d ≠ (chp F B x y i).2 := by
  intro e
  rcases chN_is F B x y i 4 with ⟨h1, _⟩ | ⟨d1, v1, g0, g4, hf, he, hm, hs⟩
  · exact hd h1
  have he' : chp F B x y i = (d1, v1 + bd B i d1) := he
  rw [he'] at hl e
  simp only at hl e
  have hv8 := h8 _ _ _ _ hf
  have hbi := bd_le' (i := i) (o := d1) hB
  have hbd := bd_le' (i := i) (o := d) hB
  have hw : ∃ u, Wk op M B p q x y d u ∧ u = M + tS F B p q (nx x d) (ny y d) d := by
    by_cases ht : nx x d = p ∧ ny y d = q
    · refine ⟨M, Wk.base _ _ _ h0 (by omega) ho ht.1 ht.2, ?_⟩
      unfold tS
      rw [if_pos ht]
      omega
    · by_cases hn : (chp F B (nx x d) (ny y d) d).1 = -1
      · unfold tS at e
        rw [if_neg ht, if_pos hn] at e
        unfold Nn at e
        omega
      · obtain ⟨_, gf, _⟩ := chp_is hn
        refine ⟨_, Wk.step x y d _ _ _ _ ((h _ _ _).1 _ gf).1 h0 (by omega) ho rfl rfl, ?_⟩
        unfold tS
        rw [if_neg ht, if_neg hn]
        omega
  obtain ⟨u, hu, hue⟩ := hw
  obtain ⟨u2, hu2⟩ := (h _ _ _).2 _ hu
  have h2 := ((h _ _ _).1 _ hu2).2 _ hu
  have h3 := hs d u2 h0 hl hu2
  omega
end Lay
