import Derived.Test.YtdhlikedjephmaaOw6
import Derived.Deep.Upon
namespace Go.Proofs.Ytdhlikedjephmaa
open Go.RowKit Heat
/-- Block x belongs to a list of rows. -/
def OS (V : Value) (G : Nat → Nat) (r x : Nat) : Prop := V.ownBlock = some x ∨ ∃ j, j < r ∧ G j = x
theorem RowsO.inB {w : World} {B : Nat} {V : Value} {r n : Nat} {G C : Nat → Nat} {F : Nat → Nat → Int} (h : RowsO w B V r n G C F) {x : Nat} (hx : OS V G r x) : B ≤ x ∧ x < w.heap.size := by
  rcases hx with hx | ⟨j, hj, rfl⟩
  · exact h.1.lt x hx
  · obtain ⟨_, a, b, _⟩ := h.2 j hj
    exact ⟨a, b⟩
theorem RowsO.kept {w w1 : World} {row : Option Nat} {B : Nat} {V : Value} {i n : Nat} {G C : Nat → Nat} {F : Nat → Nat → Int} (h : RowsO w B V i n G C F) (hg : w.grownBy w1 row) (hn : ∀ x, OS V G i x → row ≠ some x) : RowsO w1 B V i n G C F :=
  ⟨h.1.kept hg (by
    cases hv : V.ownBlock with
    | none => exact .inl rfl
    | some q => exact .inr (fun e => hn q (.inl hv) e.symm)), fun j hj => by
    obtain ⟨a, b, c, d⟩ := h.2 j hj
    have hj' := hn (G j) (.inr ⟨j, hj, rfl⟩)
    have hs := hg.size
    refine ⟨fun p hp => ?_, b, by omega, d⟩
    obtain ⟨x, y⟩ := a p hp
    exact ⟨farc hg x (fun e => hj' e.symm), farf hg x y (fun e => hj' e.symm)⟩⟩
theorem grown_cell (w : World) (b n : Nat) (u : Value) : w.grownBy (w.setCell ⟨b, n, none⟩ u) (some b) := ⟨rfl, rfl, rfl, by simp, fun k _ hk => heap_setCell_other w ⟨b, n, none⟩ k u (fun e => hk (by simp [e]))⟩
/-- A variable that holds a list of rows of the call's own. -/
def LsI (w : World) (B T r n : Nat) (V : Value) (G C : Nat → Nat) (F : Nat → Nat → Int) : Prop := (w.cell? ⟨T, 0, none⟩ = some V ∧ w.frozen? ⟨T, 0, none⟩ = false) ∧ RowsO w B V r n G C F
/-- No row stands twice. -/
def InjR (G : Nat → Nat) (r : Nat) : Prop := ∀ j j', j < r → j' < r → G j = G j' → j = j'
/-- Two such variables, of which none shares a block with the other. -/
def Two (w : World) (B T1 T2 r1 r2 n : Nat) (V1 V2 : Value) (G1 C1 G2 C2 : Nat → Nat) (F : Nat → Nat → Int) : Prop :=
  LsI w B T1 r1 n V1 G1 C1 F ∧ LsI w B T2 r2 n V2 G2 C2 F ∧ (∀ x, OS V1 G1 r1 x → ¬ OS V2 G2 r2 x) ∧ T1 < B ∧ T2 < B ∧ (¬ T1 = T2) ∧ B ≤ w.heap.size ∧ InjR G1 r1 ∧ InjR G2 r2
section
variable {w w0 w1 : World} {B T1 T2 r1 r2 n : Nat} {V1 V2 : Value} {G1 C1 G2 C2 : Nat → Nat} {F : Nat → Nat → Int}
theorem Two.symm (h : Two w B T1 T2 r1 r2 n V1 V2 G1 C1 G2 C2 F) : Two w B T2 T1 r2 r1 n V2 V1 G2 C2 G1 C1 F := by
  obtain ⟨a, b, c, d, e, f, g, i, j⟩ := h
  exact ⟨b, a, fun x hx hy => c x hy hx, e, d, fun h => f h.symm, g, j, i⟩
theorem LsI.keep {T r : Nat} {V : Value} {G C : Nat → Nat} (h : LsI w B T r n V G C F) (hb : Below w.heap.size w w1) : LsI w1 B T r n V G C F := by
  obtain ⟨⟨a, b⟩, c⟩ := h
  have hT := World.block_lt_of_cell? _ _ a
  exact ⟨⟨((bcl hb).1 _ _ hT).trans a, ((bcl hb).2 _ _ hT).trans b⟩, c.keep hb⟩
theorem Two.keep (h : Two w B T1 T2 r1 r2 n V1 V2 G1 C1 G2 C2 F) (hb : Below w.heap.size w w1) : Two w1 B T1 T2 r1 r2 n V1 V2 G1 C1 G2 C2 F := by
  obtain ⟨a, b, c, d, e, f, g, i, j⟩ := h
  exact ⟨a.keep hb, b.keep hb, c, d, e, f, Nat.le_trans g hb.size, i, j⟩
/-- One more row for the first of them. -/
theorem Two.step {g g' cap cap' : Nat} (h : Two w B T1 T2 r1 r2 n V1 V2 G1 C1 G2 C2 F) (hb : Below w.heap.size w w0) (hi : Intw w0 g n (F r1)) (hg : w.heap.size ≤ g) (hgl : g < w0.heap.size)
    (hown : w1.ownsRow B 24 1 (.slice (some ⟨g', 0, none⟩) (r1 + 1) cap') (r1 + 1) (rowsC G1 C1 n r1 ++ [.slice (some ⟨g, 0, none⟩) n cap])) (hgr : w0.grownBy w1 V1.ownBlock) (hor : V1.ownBlock = some g' ∨ w0.heap.size ≤ g') :
    Two (w1.setCell ⟨T1, 0, none⟩ (.slice (some ⟨g', 0, none⟩) (r1 + 1) cap')) B T1 T2 (r1 + 1) r2 n (.slice (some ⟨g', 0, none⟩) (r1 + 1) cap') V2 (updN G1 r1 g) (updN C1 r1 cap) G2 C2 F := by
  obtain ⟨⟨⟨a1, f1⟩, R1⟩, ⟨⟨a2, f2⟩, R2⟩, hap, hT1, hT2, hTT, hB, hj1, hj2⟩ := h.keep hb
  have hold1 : ∀ x, OS V1 G1 r1 x → B ≤ x ∧ x < w.heap.size := fun x hx => h.1.2.inB hx
  have hold2 : ∀ x, OS V2 G2 r2 x → B ≤ x ∧ x < w.heap.size := fun x hx => h.2.1.2.inB hx
  have hBw : B ≤ w.heap.size := h.2.2.2.2.2.2.1
  have hww := hb.size
  have hne : V1.ownBlock ≠ some g := fun e => by have := (hold1 g (.inl e)).2; omega
  have R1' := (R1.append hi (by omega) hgl hne hown hgr hor).congr (F' := F) (fun j _ q _ => by
    by_cases e : j = r1
    · subst e; rw [if_pos rfl]
    · rw [if_neg e])
  have R2' : RowsO w1 B V2 r2 n G2 C2 F := R2.kept hgr (fun x hx e => hap x (.inl e) hx)
  have hown1 : ∀ x, OS (.slice (some ⟨g', 0, none⟩) (r1 + 1) cap') (updN G1 r1 g) (r1 + 1) x → OS V1 G1 r1 x ∨ w.heap.size ≤ x := by
    rintro x (hx | ⟨j, hj, hx⟩)
    · simp only [Value.ownBlock, Option.some.injEq] at hx
      subst hx
      rcases hor with e | e
      · exact .inl (.inl e)
      · exact .inr (by omega)
    · unfold updN at hx
      split at hx
      · exact .inr (by omega)
      · exact .inl (.inr ⟨j, by omega, hx⟩)
  have hT1n : ∀ x, OS V1 G1 r1 x → ¬ T1 = x := fun x hx e => by have := (hold1 x hx).1; omega
  have hc1 : w1.cell? ⟨T1, 0, none⟩ = some V1 := farc hgr a1 (fun e => by have := (hold1 T1 (.inl e.symm)).1; omega)
  have hf1 : w1.frozen? ⟨T1, 0, none⟩ = false := farf hgr a1 f1 (fun e => by have := (hold1 T1 (.inl e.symm)).1; omega)
  have hc2 : w1.cell? ⟨T2, 0, none⟩ = some V2 := farc hgr a2 (fun e => by have := (hold1 T2 (.inl e.symm)).1; omega)
  have hf2 : w1.frozen? ⟨T2, 0, none⟩ = false := farf hgr a2 f2 (fun e => by have := (hold1 T2 (.inl e.symm)).1; omega)
  refine ⟨⟨⟨by go_cell, by go_cell⟩, ?_⟩, ⟨⟨by go_cell, by go_cell⟩, ?_⟩, fun x hx hy => ?_, hT1, hT2, hTT, ?_, fun j j' hj hj' e => ?_, hj2⟩
  · exact R1'.kept (grown_cell w1 T1 0 _) (fun x hx e => by
      have h1 := (R1'.inB hx).1
      have h2 := Option.some.inj e
      omega)
  · exact R2'.kept (grown_cell w1 T1 0 _) (fun x hx e => by
      have h1 := (hold2 x hx).1
      have h2 := Option.some.inj e
      omega)
  · rcases hown1 x hx with e | e
    · exact hap x e hy
    · have := (hold2 x hy).2
      omega
  · have h1 := hgr.size
    have h2 := (grown_cell w1 T1 0 (.slice (some ⟨g', 0, none⟩) (r1 + 1) cap')).size
    omega
  · have hlt : ∀ q, q < r1 → G1 q < w.heap.size := fun q hq => (hold1 (G1 q) (.inr ⟨q, hq, rfl⟩)).2
    unfold updN at e
    by_cases e1 : j = r1
    · by_cases e2 : j' = r1
      · omega
      · rw [if_pos e1, if_neg e2] at e
        have := hlt j' (by omega)
        omega
    · by_cases e2 : j' = r1
      · rw [if_neg e1, if_pos e2] at e
        have := hlt j (by omega)
        omega
      · rw [if_neg e1, if_neg e2] at e
        exact hj1 j j' (by omega) (by omega) e
end
/-- The rows behind an exchange of two of them. -/
def sgJ (i k j : Nat) : Nat := if j = i then k else if j = k then i else j
/-- The rows where row k stands at i too. -/
def twR (i k : Nat) (F : Nat → Nat → Int) : Nat → Nat → Int := fun j => if j = i then F k else F j
theorem swR_sg {i k : Nat} {F : Nat → Nat → Int} (j : Nat) : swR i k F j = F (sgJ i k j) := by
  unfold swR sgJ
  by_cases h1 : j = i
  · rw [if_pos h1, if_pos h1]
  · rw [if_neg h1, if_neg h1]
    by_cases h2 : j = k
    · rw [if_pos h2, if_pos h2]
    · rw [if_neg h2, if_neg h2]
theorem sg_lt {i k j n : Nat} (hi : i < n) (hk : k < n) (hj : j < n) : sgJ i k j < n := by unfold sgJ; split <;> (try split) <;> omega
theorem detN_g {n : Nat} {F : Nat → Nat → Int} (hn : n ≤ 5) : detN n (gnL n n F) = wrap64 (detP n F) := by
  rw [detN_P hn]
  congr 1
  refine detP_congr fun i hi j hj => ?_
  have h5 : (i * 5 + j) / 5 = i ∧ (i * 5 + j) % 5 = j := by omega
  unfold gnL
  rw [h5.1, h5.2, if_pos ⟨hi, hj⟩]
/-- The determinants of the exchanged and of the doubled rows. -/
theorem det_rows {n i k : Nat} {F : Nat → Nat → Int} (hn : n ≤ 5) (hi : i < n) (hk : k < n) (h : ¬ i = k) :
    wrap64 (-detN n (gnL n n (swR i k F))) = detN n (gnL n n F) ∧ detN n (gnL n n (twR i k F)) = 0 := by
  have he : twR i k F i = twR i k F k := by unfold twR; rw [if_pos rfl, if_neg (fun e => h e.symm)]
  constructor
  · rw [detN_g hn, detN_g hn, detP_exch hi hk h, wrap_neg, Int.neg_neg]
  · rw [detN_g hn, detP_twice hi hk h he]; unfold wrap64; omega
theorem okG_rows {n : Nat} {l : Nat → Nat} {F G : Nat → Nat → Int} (h : okG n l F = true) (hG : ∀ j, j < n → ∃ q, q < n ∧ G j = F q) : okG n (fun _ => n) G = true := by
  obtain ⟨a, b⟩ := okG_iff.1 h
  refine okG_iff.2 ⟨a, fun j hj => ⟨rfl, ?_⟩⟩
  obtain ⟨q, hq, e⟩ := hG j hj
  rw [e]
  exact (b q hq).2
theorem copy_row {w : World} {g n dc sc b o : Nat} {f F : Nat → Int} (hd : Intw w g n f) (hs : ∀ j, j < n → w.cell? ⟨b, o + j, none⟩ = some (.int .i64 (F j))) :
    (Builtin.copy_ #[24, 24] 3 #[.slice (some ⟨g, 0, none⟩) n dc, .slice (some ⟨b, o, none⟩) n sc]).run Try.prog w = .ok (goInt n) (w.setCells g 0 (cellsI F n)) := by
  have hl := cellsI_len F n
  refine (run_copy_cells (P := Try.prog) w 24 24 3 3 g 0 n dc ⟨b, o, none⟩ n sc (cellsI F n) Try.underlying24 (by kernel_rfl) (by rw [hl]; exact (Nat.min_self n).symm) ?_ ?_ ?_ (cellsI_one F n)).trans (by rw [hl])
  · intro j v hj
    have hlt : j < n := by have := (List.getElem?_eq_some_iff.1 hj).1; rwa [hl] at this
    rw [cellsI_get F hlt] at hj
    rw [Addr.add_lit, ← hj]
    exact hs j hlt
  · intro j hj
    rw [hl] at hj
    rw [Nat.zero_add, (hd j hj).1]; rfl
  · intro j hj
    rw [hl] at hj
    rw [Nat.zero_add]; exact (hd j hj).2
theorem Intw.copied {w : World} {g n : Nat} {f F : Nat → Int} (hd : Intw w g n f) : Intw (w.setCells g 0 (cellsI F n)) g n F := by
  intro j hj
  have hl := cellsI_len F n
  have h1 := World.cell?_setCells_in g (cellsI F n) 0 w (fun q hq => by rw [hl] at hq; rw [Nat.zero_add, (hd q hq).1]; rfl) j (by rw [hl]; exact hj)
  rw [Nat.zero_add] at h1
  refine ⟨h1.trans ?_, (World.frozen?_setCells g (cellsI F n) 0 w _).trans (hd j hj).2⟩
  rw [← cellsI_get F hj, List.getElem?_eq_getElem]
theorem grown_cells (w : World) (g : Nat) (vs : List Value) : w.grownBy (w.setCells g 0 vs) (some g) :=
  ⟨World.os_setCells w g 0 vs, by have := (below_setCells (Below.refl g w) (Nat.le_refl g) vs 0).tape; exact this, World.output_setCells w g 0 vs, (below_setCells (Below.refl g w) (Nat.le_refl g) vs 0).size, fun k hk hne => World.heap_setCells_other w g 0 vs hk (fun e => hne (by rw [e]))⟩
end Go.Proofs.Ytdhlikedjephmaa
