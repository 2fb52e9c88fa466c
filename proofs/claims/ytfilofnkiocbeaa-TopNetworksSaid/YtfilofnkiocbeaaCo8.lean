import Derived.Test.YtfilofnkiocbeaaLp8
import Derived.Test.YtfilofnkiocbeaaFr8
namespace Ben
/-- What the settings of a choice say of an input. -/
def OkC (p q : Nat → Nat) (σ : Nat → Bool) (ff fl : Nat → Bool) (f0 f1 : Nat → Int) (x : Nat) : Prop :=
  ff (x / 2) = stF σ (x / 2) ∧ fl (p x / 2) = σ (q (2 * (p x / 2))) ∧ (σ x = false → f0 (x / 2) = ((upS p σ (x / 2) : Nat) : Int)) ∧ (σ x = true → f1 (x / 2) = ((loS p σ (x / 2) : Nat) : Int))
theorem half_val (m i k : Nat) : (m / 2 ^ i + k) % 2 = if (bt m i ^^ decide (k % 2 = 1)) = true then 1 else 0 := by
  unfold bt
  by_cases a : m / 2 ^ i % 2 = 1 <;> by_cases b : k % 2 = 1 <;> simp [a, b] <;> omega
theorem good_first {h x : Nat} {q : Nat → Nat} {σ : Nat → Bool} (G : Good h q σ) (hx : x < 2 * h) : stF σ (x / 2) = (if x % 2 = 0 then σ x else !σ x) := by
  unfold stF
  by_cases e : x % 2 = 0
  · rw [if_pos e, show 2 * (x / 2) = x by omega]
  · rw [if_neg e]
    have h1 := G.1 x hx
    have h2 : pt x = 2 * (x / 2) := by unfold pt; rw [if_neg e]; omega
    rw [h2] at h1
    exact h1
theorem good_last {h x : Nat} {p q : Nat → Nat} {σ : Nat → Bool} (P : Pm (2 * h) p q) (G : Good h q σ) (hx : x < 2 * h) : σ (q (2 * (p x / 2))) = (if p x % 2 = 0 then σ x else !σ x) := by
  have hp := P.lp x hx
  by_cases e : p x % 2 = 0
  · rw [if_pos e, show 2 * (p x / 2) = p x by omega, P.qp x hx]
  · rw [if_neg e]
    have h1 := G.2 (p x) hp
    have h2 : pt (p x) = 2 * (p x / 2) := by unfold pt; rw [if_neg e]; omega
    rw [h2, P.qp x hx] at h1
    exact h1
theorem good_up {h x : Nat} {p q : Nat → Nat} {σ : Nat → Bool} (G : Good h q σ) (hx : x < 2 * h) (hs : σ x = false) : upS p σ (x / 2) = p x / 2 := by
  unfold upS
  have h1 := good_first G hx
  unfold stF at h1
  rw [h1]
  by_cases e : x % 2 = 0
  · rw [if_pos e, hs, if_neg (by decide), show 2 * (x / 2) = x by omega]
  · rw [if_neg e, hs, if_pos (by decide), show 2 * (x / 2) + 1 = x by omega]
theorem good_lo {h x : Nat} {p q : Nat → Nat} {σ : Nat → Bool} (G : Good h q σ) (hx : x < 2 * h) (hs : σ x = true) : loS p σ (x / 2) = p x / 2 := by
  unfold loS
  have h1 := good_first G hx
  unfold stF at h1
  rw [h1]
  by_cases e : x % 2 = 0
  · rw [if_pos e, hs, if_pos rfl, show 2 * (x / 2) = x by omega]
  · rw [if_neg e, hs, if_neg (by decide), show 2 * (x / 2) + 1 = x by omega]
theorem lin_lpF {p q s kk : Nat → Nat} {L x : Nat} : LIn p q (L + 1) s kk x ↔ LIn p q L s kk x ∨ ∃ j, j < 2 * kk L ∧ x = lpF p q (s L) j := by
  constructor
  · rintro ⟨i, hi, j, hj, h⟩
    by_cases e : i = L
    · subst e
      refine Or.inr ?_
      rcases h with h | h
      · exact ⟨2 * j, by omega, by rw [lpF_even]; exact h⟩
      · exact ⟨2 * j + 1, by omega, by rw [lpF_odd]; exact h⟩
    · exact Or.inl ⟨i, by omega, j, hj, h⟩
  · rintro (⟨i, hi, j, hj, h⟩ | ⟨j, hj, h⟩)
    · exact ⟨i, by omega, j, hj, h⟩
    · refine ⟨L, by omega, j / 2, by omega, ?_⟩
      unfold lpF at h
      by_cases e : j % 2 = 0
      · rw [if_pos e] at h; exact Or.inl h
      · rw [if_neg e] at h; exact Or.inr h
end Ben
namespace Go.Proofs.Ytfilofnkiocbeaa
open Go.RowKit Ben Prm
theorem act_allC : (∀ (a : Act) (v : Value), a.put none v = a) ∧ (∀ (a : Act) (d : Tmp) (v : Value), a.put (some d) v = { a with tmps := a.tmps.setIfInBounds d v }) ∧ (∀ {α : Type} (l : List α) (i : Nat) (v : α), l.toArray.setIfInBounds i v = (l.set i v).toArray) ∧ (∀ {α : Type} (x : α) (l : List α) (v : α), (x :: l).set 0 v = v :: l) ∧ (∀ {α : Type} (x : α) (l : List α) (n : Nat) (v : α), (x :: l).set (n + 1) v = x :: l.set n v) :=
  ⟨fun _ _ => rfl, fun _ _ _ => rfl, fun l i v => List.setIfInBounds_toArray l i v, fun _ _ _ => rfl, fun _ _ _ _ => rfl⟩

theorem new_bow (w : World) (n : Nat) : Bow (w.alloc (.cells (madeCells #[.bool false] n) 4)) w.heap.size n (fun _ => false) := by
  intro i hi
  refine ⟨?_, by rw [World.frozen?_alloc_at (hn := rfl)]⟩
  rw [World.cell?_alloc_at (hn := rfl), ← Array.getElem?_toList]
  exact made_bool n i hi
def chU : Nat → Free.FreeOp := fun k => match k with
  | 0 => ⟨1, 19, fun _ => false⟩ | 1 => ⟨3, 21, fun _ => false⟩ | 2 => ⟨5, 23, fun _ => false⟩ | 3 => ⟨7, 25, fun _ => false⟩
  | 4 => ⟨8, 26, fun j => j == 2 || j == 3⟩ | 5 => ⟨9, 27, fun j => j == 0 || j == 1 || j == 2 || j == 3 || j == 4⟩ | _ => ⟨10, 8, fun _ => false⟩
def chR (h k : Nat) (f : Nat → Value) (v : Value) (w : World) : Prop := match k with
  | 0 => ∃ g, v = .slice (some ⟨g, 0, none⟩) h h ∧ Bow w g h (fun _ => false)
  | 1 => ∃ g, v = .slice (some ⟨g, 0, none⟩) h h ∧ Bow w g h (fun _ => false)
  | 2 => ∃ g, v = .slice (some ⟨g, 0, none⟩) h h ∧ Intw w g h (fun _ => 0)
  | 3 => ∃ g, v = .slice (some ⟨g, 0, none⟩) h h ∧ Intw w g h (fun _ => 0)
  | 4 => v = .agg #[f 2, f 3]
  | 5 => v = .agg #[f 0, f 1, f 2, f 3]
  | _ => ∃ g, v = .pointer (some ⟨g, 0, none⟩) ∧ w.heap[g]? = some (.cells #[.slice none 0 0, .slice none 0 0, .slice none 0 0, .slice none 0 0] 80)
theorem chR_keep (h : Nat) : ∀ k, k < 7 → ∀ f v w w', chR h k f v w → Below w.heap.size w w' → chR h k f v w' := by
  intro k hk f v w w' hr hb
  match k, hk, hr with
  | 0, _, ⟨g, a, b⟩ => exact ⟨g, a, b.keep hb⟩
  | 1, _, ⟨g, a, b⟩ => exact ⟨g, a, b.keep hb⟩
  | 2, _, ⟨g, a, b⟩ => exact ⟨g, a, b.keep hb⟩
  | 3, _, ⟨g, a, b⟩ => exact ⟨g, a, b.keep hb⟩
  | 4, _, hr => exact hr
  | 5, _, hr => exact hr
  | 6, _, ⟨g, a, b⟩ => exact ⟨g, a, (hb.block g (Array.getElem?_eq_some_iff.1 b).1).trans b⟩
theorem chR_dep (h : Nat) : ∀ k, k < 7 → ∀ f f' v w, (∀ j, j < 7 → (chU k).dep j = true → f j = f' j) → chR h k f v w → chR h k f' v w := by
  intro k hk f f' v w he hr
  match k, hk, he, hr with
  | 0, _, _, hr => exact hr
  | 1, _, _, hr => exact hr
  | 2, _, _, hr => exact hr
  | 3, _, _, hr => exact hr
  | 4, _, he, hr =>
    have e2 := he 2 (by omega) rfl
    have e3 := he 3 (by omega) rfl
    show v = .agg #[f' 2, f' 3]
    rw [← e2, ← e3]; exact hr
  | 5, _, he, hr =>
    have e0 := he 0 (by omega) rfl
    have e1 := he 1 (by omega) rfl
    have e2 := he 2 (by omega) rfl
    have e3 := he 3 (by omega) rfl
    show v = .agg #[f' 0, f' 1, f' 2, f' 3]
    rw [← e0, ← e1, ← e2, ← e3]; exact hr
  | 6, _, _, hr => exact hr
theorem OkC_upd {h x : Nat} {p q : Nat → Nat} {σ ff fl : Nat → Bool} {f0 f1 : Nat → Int} {y : Nat} (G : Ben.Good h q σ) (hx : x < 2 * h) (hy : OkC p q σ ff fl f0 f1 y ∨ y = x) :
    OkC p q σ (updB ff (x / 2) (stF σ (x / 2))) (updB fl (p x / 2) (σ (q (2 * (p x / 2))))) (if σ x = true then f0 else updI f0 (x / 2) ((p x / 2 : Nat) : Int)) (if σ x = true then updI f1 (x / 2) ((p x / 2 : Nat) : Int) else f1) y := by
  unfold OkC updB updI
  refine ⟨?_, ?_, fun hs => ?_, fun hs => ?_⟩
  · by_cases e : y / 2 = x / 2
    · rw [if_pos e, e]
    · rw [if_neg e]
      rcases hy with hy | hy
      · exact hy.1
      · exact absurd (by rw [hy]) e
  · by_cases e : p y / 2 = p x / 2
    · rw [if_pos e, e]
    · rw [if_neg e]
      rcases hy with hy | hy
      · exact hy.2.1
      · exact absurd (by rw [hy]) e
  · by_cases hx' : σ x = true
    · rw [if_pos hx']
      rcases hy with hy | hy
      · exact hy.2.2.1 hs
      · rw [hy, hx'] at hs; cases hs
    · rw [if_neg hx']
      by_cases e : y / 2 = x / 2
      · rw [if_pos e, e, good_up G hx (by simpa using hx')]
      · rw [if_neg e]
        rcases hy with hy | hy
        · exact hy.2.2.1 hs
        · exact absurd (by rw [hy]) e
  · by_cases hx' : σ x = true
    · rw [if_pos hx']
      by_cases e : y / 2 = x / 2
      · rw [if_pos e, e, good_lo G hx hx']
      · rw [if_neg e]
        rcases hy with hy | hy
        · exact hy.2.2.2 hs
        · exact absurd (by rw [hy]) e
    · rw [if_neg hx']
      rcases hy with hy | hy
      · exact hy.2.2.2 hs
      · rw [hy] at hs; exact absurd hs hx'
theorem OkC_all {h : Nat} {p q : Nat → Nat} {σ ff fl : Nat → Bool} {f0 f1 : Nat → Int} (P : Pm (2 * h) p q) (G : Ben.Good h q σ) (H : ∀ x, x < 2 * h → OkC p q σ ff fl f0 f1 x) :
    (∀ j, j < h → ff j = stF σ j) ∧ (∀ j, j < h → fl j = σ (q (2 * j))) ∧ (∀ j, j < h → f0 j = ((upS p σ j : Nat) : Int)) ∧ (∀ j, j < h → f1 j = ((loS p σ j : Nat) : Int)) := by
  refine ⟨fun j hj => ?_, fun j hj => ?_, fun j hj => ?_, fun j hj => ?_⟩
  · have h1 := (H (2 * j) (by omega)).1
    rwa [show 2 * j / 2 = j by omega] at h1
  · have h1 := (H (q (2 * j)) (P.lq _ (by omega))).2.1
    rw [P.pq _ (by omega)] at h1
    rwa [show 2 * j / 2 = j by omega] at h1
  · have h2 := G.1 (2 * j) (by omega)
    rw [show pt (2 * j) = 2 * j + 1 by unfold pt; rw [if_pos (by omega)]] at h2
    cases e : σ (2 * j)
    · have h1 := (H (2 * j) (by omega)).2.2.1 e
      rwa [show 2 * j / 2 = j by omega] at h1
    · have h1 := (H (2 * j + 1) (by omega)).2.2.1 (by rw [h2, e]; rfl)
      rwa [show (2 * j + 1) / 2 = j by omega] at h1
  · have h2 := G.1 (2 * j) (by omega)
    rw [show pt (2 * j) = 2 * j + 1 by unfold pt; rw [if_pos (by omega)]] at h2
    cases e : σ (2 * j)
    · have h1 := (H (2 * j + 1) (by omega)).2.2.2 (by rw [h2, e]; rfl)
      rwa [show (2 * j + 1) / 2 = j by omega] at h1
    · have h1 := (H (2 * j) (by omega)).2.2.2 e
      rwa [show 2 * j / 2 = j by omega] at h1
/-- What choiceOf gives for sides. -/
def ChoR (h : Nat) (p q : Nat → Nat) (σ : Nat → Bool) (w : World) (e : Ending) : Prop := ∃ gf gl g0 g1 : Nat, e = .returned (.agg #[.slice (some ⟨gf, 0, none⟩) h h, .slice (some ⟨gl, 0, none⟩) h h, .slice (some ⟨g0, 0, none⟩) h h, .slice (some ⟨g1, 0, none⟩) h h]) ∧
  Bow w gf h (stF σ) ∧ Bow w gl h (fun j => σ (q (2 * j))) ∧ Intw w g0 h (fun j => ((upS p σ j : Nat) : Int)) ∧ Intw w g1 h (fun j => ((loS p σ j : Nat) : Int))
/-- No two of the blocks of a choice that is being made are one. -/
structure NeC (rb gc gf gl gu gw : Nat) : Prop where
  rf : ¬ rb = gf
  rl : ¬ rb = gl
  ru : ¬ rb = gu
  rw : ¬ rb = gw
  cf : ¬ gc = gf
  cl : ¬ gc = gl
  cu : ¬ gc = gu
  cw : ¬ gc = gw
  fl : ¬ gf = gl
  fu : ¬ gf = gu
  fw : ¬ gf = gw
  lu : ¬ gl = gu
  lw : ¬ gl = gw
  uw : ¬ gu = gw
/-- A choice that is being made: the result's cells, the choice's own ones, and its four lists. -/
structure StC (w : World) (rb gc h gf gl gu gw : Nat) (ff fl : Nat → Bool) (f0 f1 : Nat → Int) : Prop where
  r : ∀ i, i < 4 → w.cell? ⟨rb, i, none⟩ = some (.slice none 0 0) ∧ w.frozen? ⟨rb, i, none⟩ = false
  c0 : w.cell? ⟨gc, 0, none⟩ = some (.slice (some ⟨gf, 0, none⟩) h h)
  c1 : w.cell? ⟨gc, 1, none⟩ = some (.slice (some ⟨gl, 0, none⟩) h h)
  c2 : w.cell? ⟨gc, 2, none⟩ = some (.slice (some ⟨gu, 0, none⟩) h h)
  c3 : w.cell? ⟨gc, 3, none⟩ = some (.slice (some ⟨gw, 0, none⟩) h h)
  f : Bow w gf h ff
  l : Bow w gl h fl
  u : Intw w gu h f0
  v : Intw w gw h f1
theorem StC.sf {w : World} {rb gc h gf gl gu gw : Nat} {ff fl : Nat → Bool} {f0 f1 : Nat → Int} (H : StC w rb gc h gf gl gu gw ff fl f0 f1) (N : NeC rb gc gf gl gu gw) {a : Nat} (ha : a < h) (x : Bool) : StC (w.setCell ⟨gf, a, none⟩ (.bool x)) rb gc h gf gl gu gw (updB ff a x) fl f0 f1 := by
  have nrb : ¬ gf = rb := fun e => N.rf e.symm
  have ngc : ¬ gf = gc := fun e => N.cf e.symm
  have ngl : ¬ gf = gl := N.fl
  have ngu : ¬ gf = gu := N.fu
  have ngw : ¬ gf = gw := N.fw
  refine ⟨fun i hi => ?_, ?_, ?_, ?_, ?_, H.f.store ha x, H.l.other ngl, H.u.other ngu, H.v.other ngw⟩
  · obtain ⟨a0, b0⟩ := H.r i hi
    exact ⟨by go_cell, by go_cell⟩
  · have := H.c0; go_cell
  · have := H.c1; go_cell
  · have := H.c2; go_cell
  · have := H.c3; go_cell
theorem StC.sl {w : World} {rb gc h gf gl gu gw : Nat} {ff fl : Nat → Bool} {f0 f1 : Nat → Int} (H : StC w rb gc h gf gl gu gw ff fl f0 f1) (N : NeC rb gc gf gl gu gw) {a : Nat} (ha : a < h) (x : Bool) : StC (w.setCell ⟨gl, a, none⟩ (.bool x)) rb gc h gf gl gu gw ff (updB fl a x) f0 f1 := by
  have nrb : ¬ gl = rb := fun e => N.rl e.symm
  have ngc : ¬ gl = gc := fun e => N.cl e.symm
  have ngf : ¬ gl = gf := fun e => N.fl e.symm
  have ngu : ¬ gl = gu := N.lu
  have ngw : ¬ gl = gw := N.lw
  refine ⟨fun i hi => ?_, ?_, ?_, ?_, ?_, H.f.other ngf, H.l.store ha x, H.u.other ngu, H.v.other ngw⟩
  · obtain ⟨a0, b0⟩ := H.r i hi
    exact ⟨by go_cell, by go_cell⟩
  · have := H.c0; go_cell
  · have := H.c1; go_cell
  · have := H.c2; go_cell
  · have := H.c3; go_cell
theorem StC.su {w : World} {rb gc h gf gl gu gw : Nat} {ff fl : Nat → Bool} {f0 f1 : Nat → Int} (H : StC w rb gc h gf gl gu gw ff fl f0 f1) (N : NeC rb gc gf gl gu gw) {a : Nat} (ha : a < h) (x : Int) : StC (w.setCell ⟨gu, a, none⟩ (.int .i64 x)) rb gc h gf gl gu gw ff fl (updI f0 a x) f1 := by
  have nrb : ¬ gu = rb := fun e => N.ru e.symm
  have ngc : ¬ gu = gc := fun e => N.cu e.symm
  have ngf : ¬ gu = gf := fun e => N.fu e.symm
  have ngl : ¬ gu = gl := fun e => N.lu e.symm
  have ngw : ¬ gu = gw := N.uw
  refine ⟨fun i hi => ?_, ?_, ?_, ?_, ?_, H.f.other ngf, H.l.other ngl, H.u.store ha x, H.v.other ngw⟩
  · obtain ⟨a0, b0⟩ := H.r i hi
    exact ⟨by go_cell, by go_cell⟩
  · have := H.c0; go_cell
  · have := H.c1; go_cell
  · have := H.c2; go_cell
  · have := H.c3; go_cell
theorem StC.sv {w : World} {rb gc h gf gl gu gw : Nat} {ff fl : Nat → Bool} {f0 f1 : Nat → Int} (H : StC w rb gc h gf gl gu gw ff fl f0 f1) (N : NeC rb gc gf gl gu gw) {a : Nat} (ha : a < h) (x : Int) : StC (w.setCell ⟨gw, a, none⟩ (.int .i64 x)) rb gc h gf gl gu gw ff fl f0 (updI f1 a x) := by
  have nrb : ¬ gw = rb := fun e => N.rw e.symm
  have ngc : ¬ gw = gc := fun e => N.cw e.symm
  have ngf : ¬ gw = gf := fun e => N.fw e.symm
  have ngl : ¬ gw = gl := fun e => N.lw e.symm
  have ngu : ¬ gw = gu := fun e => N.uw e.symm
  refine ⟨fun i hi => ?_, ?_, ?_, ?_, ?_, H.f.other ngf, H.l.other ngl, H.u.other ngu, H.v.store ha x⟩
  · obtain ⟨a0, b0⟩ := H.r i hi
    exact ⟨by go_cell, by go_cell⟩
  · have := H.c0; go_cell
  · have := H.c1; go_cell
  · have := H.c2; go_cell
  · have := H.c3; go_cell
set_option maxRecDepth 100000 in
set_option maxHeartbeats 16000000 in
theorem choiceOf_any (h n cap lcap m B top gv L : Nat) (ao : Option Addr) (p q s kk G C id : Nat → Nat) (par : Nat → Bool) (w : World) (hnh : n = 2 * h) (h1 : 1 ≤ h) (h8 : h ≤ 8) (P : Pm n p q) (hc : Ints w ao n (fun j => ((p j : Nat) : Int)))
    (hL : L ≤ 16) (hm : m < 2 ^ L) (hlo : Loops h L q id par s) (hlp : Lps h p q L s kk) (hid : ∀ i j, i < L → j < kk i → id (itt p q (s i) j) = i ∧ par (itt p q (s i) j) = false ∧ id (pt (itt p q (s i) j)) = i ∧ par (pt (itt p q (s i) j)) = true)
    (hk : ∀ i, i < L → kk i ≤ 2 * h) (hv : RowsV w B top (.slice (some ⟨gv, 0, none⟩) L lcap) L (fun i => 2 * kk i) G C (fun i j => ((lpF p q (s i) j : Nat) : Int))) :
    Calls Try.prog 84 #[.slice ao n cap, .slice (some ⟨gv, 0, none⟩) L lcap, .int .i64 (m : Int)] w fun e w' => ChoR h p q (sdN id par m) w' e ∧ Below w.heap.size w w' := by
  have hq : (n : Int) / 2 = (h : Int) := by omega
  have h0' : (0 : Int) ≤ (h : Int) := by omega
  have hmkI : ∀ w : World, (Instr.makeSlice 28 (.int .i64 h) (.int .i64 h)).run Try.prog w = .ok (.slice (some ⟨w.heap.size, 0, none⟩) h h) (w.alloc (.cells (madeCells #[.int .i64 0] h) 3)) :=
    fun w => run_make_row' 28 3 (.int .i64 0) 8 Try.underlying28 infoInt rfl .i64 .i64 h (by omega) (by omega) w
  have hmkB : ∀ w : World, (Instr.makeSlice 27 (.int .i64 h) (.int .i64 h)).run Try.prog w = .ok (.slice (some ⟨w.heap.size, 0, none⟩) h h) (w.alloc (.cells (madeCells #[.bool false] h) 4)) :=
    fun w => run_make_row' 27 4 (.bool false) 1 Try.underlying27 infoBool rfl .i64 .i64 h (by omega) (by omega) w
  have hb8 : (h : Int) ≤ 8 := by omega
  have HGO := Lib.hid (good_sdN hlo m)
  obtain ⟨σ, hσ⟩ : ∃ σ, sdN id par m = σ := ⟨_, rfl⟩
  rw [hσ] at HGO
  rw [hσ]
  have HSG := Lib.hid hσ
  have HP2 : Hid (Pm (2 * h) p q) := Lib.hid (by rw [← hnh]; exact P)
  have HN := Lib.hid (And.intro hnh (And.intro h1 (And.intro h8 (And.intro hL hm))))
  have HC := Lib.hid hc
  have HLP := Lib.hid hlp
  have HID := Lib.hid hid
  have HKK := Lib.hid hk
  have HV := Lib.hid hv
  clear P hc h1 h8 hnh hlo hlp hid hk hv hL hm hσ
  go_enter Try.func84, Try.ntmps84
  go_upto_region 2 with fail
  refine wp_region_held_drew (S := fun _ => True) (by kernel_rfl) trivial (fun hHeld => ?_)
  refine wpAnyH_take (i := 0) (oi := _) (v := ?_) rfl (by kernel_rfl) (by kernel_rfl) (by kernel_rfl) (fun _ _ _ h => h) (Or.inl ⟨by rfl, ?_⟩) (by assumption) ?_
  rotate_left
  · intro w hSw; go_simp; (try with_reducible rfl)
  try change wpAnyH _ _ _ _ _ _ _ (Act.put _ (some 18) _) _
  try simp only [act_allC]
  refine wpAnyH_take (i := 2) (oi := _) (v := ?_) rfl (by kernel_rfl) (by kernel_rfl) (by kernel_rfl) (fun _ _ _ h => h) (Or.inl ⟨by rfl, ?_⟩) (by assumption) ?_
  rotate_left
  · intro w hSw; go_simp; (try with_reducible rfl)
  try change wpAnyH _ _ _ _ _ _ _ (Act.put _ (some 20) _) _
  try simp only [act_allC]
  refine wpAnyH_take (i := 4) (oi := _) (v := ?_) rfl (by kernel_rfl) (by kernel_rfl) (by kernel_rfl) (fun _ _ _ h => h) (Or.inl ⟨by rfl, ?_⟩) (by assumption) ?_
  rotate_left
  · intro w hSw; go_simp; (try with_reducible rfl)
  try change wpAnyH _ _ _ _ _ _ _ (Act.put _ (some 22) _) _
  try simp only [act_allC]
  refine wpAnyH_take (i := 6) (oi := _) (v := ?_) rfl (by kernel_rfl) (by kernel_rfl) (by kernel_rfl) (fun _ _ _ h => h) (Or.inl ⟨by rfl, ?_⟩) (by assumption) ?_
  rotate_left
  · intro w hSw; go_simp; (try with_reducible rfl)
  try change wpAnyH _ _ _ _ _ _ _ (Act.put _ (some 24) _) _
  try simp only [act_allC]
  refine Free.wpAnyH_free (U := chU) (m := 7) (n := 1) (N := 82) (R := chR h) (by kernel_rfl) (by kernel_rfl) rfl (chR_keep h) (chR_dep h) ?_ ?_ trivial
  · intro k hk o ho f w _ hb hr
    match k, hk, ho, hr with
    | 0, _, ho, _ =>
      obtain rfl := Option.some.inj ho
      simp only [Free.actOf, chU]
      go_simp
      exact ⟨by go_grown, ⟨_, rfl, new_bow w h⟩, fun b hb => by cases hb; simp⟩
    | 1, _, ho, _ =>
      obtain rfl := Option.some.inj ho
      simp only [Free.actOf, chU]
      go_simp
      exact ⟨by go_grown, ⟨_, rfl, new_bow w h⟩, fun b hb => by cases hb; simp⟩
    | 2, _, ho, _ =>
      obtain rfl := Option.some.inj ho
      simp only [Free.actOf, chU]
      go_simp
      exact ⟨by go_grown, ⟨_, rfl, new_row w h⟩, fun b hb => by cases hb; simp⟩
    | 3, _, ho, _ =>
      obtain rfl := Option.some.inj ho
      simp only [Free.actOf, chU]
      go_simp
      exact ⟨by go_grown, ⟨_, rfl, new_row w h⟩, fun b hb => by cases hb; simp⟩
    | 4, _, ho, hr =>
      obtain rfl := Option.some.inj ho
      obtain ⟨g2, h2, _⟩ := hr 2 (by omega) rfl
      obtain ⟨g3, h3, _⟩ := hr 3 (by omega) rfl
      have HF := Lib.hid (And.intro h2 h3)
      simp only [Free.actOf, chU, h2, h3, act_allC]
      clear hr h2 h3
      go_simp
      exact ⟨Below.refl _ _, by show _ = _; rw [HF.out.1, HF.out.2], fun b hb => by cases hb⟩
    | 5, _, ho, hr =>
      obtain rfl := Option.some.inj ho
      obtain ⟨g0, h0, _⟩ := hr 0 (by omega) rfl
      obtain ⟨g1, h1, _⟩ := hr 1 (by omega) rfl
      obtain ⟨g2, h2, _⟩ := hr 2 (by omega) rfl
      obtain ⟨g3, h3, _⟩ := hr 3 (by omega) rfl
      have h4 : f 4 = .agg #[f 2, f 3] := hr 4 (by omega) rfl
      rw [h2, h3] at h4
      have HF := Lib.hid (And.intro h0 (And.intro h1 (And.intro h2 h3)))
      simp only [Free.actOf, chU, h0, h1, h2, h3, h4, act_allC]
      clear hr h0 h1 h2 h3 h4
      go_simp
      exact ⟨Below.refl _ _, by show _ = _; rw [HF.out.1, HF.out.2.1, HF.out.2.2.1, HF.out.2.2.2], fun b hb => by cases hb⟩
    | 6, _, ho, _ =>
      obtain rfl := Option.some.inj ho
      simp only [Free.actOf, chU]
      go_simp
      exact ⟨by go_grown, ⟨_, rfl, heap_new w _⟩, fun b hb => by cases hb; simp⟩
  · intro f W _ hb hr hd
    obtain ⟨⟨gf, e0, HF0⟩, b0⟩ := hr 0 (by omega)
    obtain ⟨⟨gl, e1, HL0⟩, b1⟩ := hr 1 (by omega)
    obtain ⟨⟨gu, e2, HU0⟩, b2⟩ := hr 2 (by omega)
    obtain ⟨⟨gw, e3, HV0⟩, b3⟩ := hr 3 (by omega)
    have e4 : f 4 = .agg #[f 2, f 3] := (hr 4 (by omega)).1
    have e5 : f 5 = .agg #[f 0, f 1, f 2, f 3] := (hr 5 (by omega)).1
    obtain ⟨⟨gc, e6, HC6⟩, b6⟩ := hr 6 (by omega)
    rw [e2, e3] at e4
    rw [e0, e1, e2, e3] at e5
    have nfl : ¬ gf = gl := fun e => hd 0 1 (by omega) (by omega) (by omega) gf (by rw [e0]; rfl) (by rw [e1, e]; rfl)
    have nfu : ¬ gf = gu := fun e => hd 0 2 (by omega) (by omega) (by omega) gf (by rw [e0]; rfl) (by rw [e2, e]; rfl)
    have nfv : ¬ gf = gw := fun e => hd 0 3 (by omega) (by omega) (by omega) gf (by rw [e0]; rfl) (by rw [e3, e]; rfl)
    have nfc : ¬ gf = gc := fun e => hd 0 6 (by omega) (by omega) (by omega) gf (by rw [e0]; rfl) (by rw [e6, e]; rfl)
    have nlf : ¬ gl = gf := fun e => hd 1 0 (by omega) (by omega) (by omega) gl (by rw [e1]; rfl) (by rw [e0, e]; rfl)
    have nlu : ¬ gl = gu := fun e => hd 1 2 (by omega) (by omega) (by omega) gl (by rw [e1]; rfl) (by rw [e2, e]; rfl)
    have nlv : ¬ gl = gw := fun e => hd 1 3 (by omega) (by omega) (by omega) gl (by rw [e1]; rfl) (by rw [e3, e]; rfl)
    have nlc : ¬ gl = gc := fun e => hd 1 6 (by omega) (by omega) (by omega) gl (by rw [e1]; rfl) (by rw [e6, e]; rfl)
    have nuf : ¬ gu = gf := fun e => hd 2 0 (by omega) (by omega) (by omega) gu (by rw [e2]; rfl) (by rw [e0, e]; rfl)
    have nul : ¬ gu = gl := fun e => hd 2 1 (by omega) (by omega) (by omega) gu (by rw [e2]; rfl) (by rw [e1, e]; rfl)
    have nuv : ¬ gu = gw := fun e => hd 2 3 (by omega) (by omega) (by omega) gu (by rw [e2]; rfl) (by rw [e3, e]; rfl)
    have nuc : ¬ gu = gc := fun e => hd 2 6 (by omega) (by omega) (by omega) gu (by rw [e2]; rfl) (by rw [e6, e]; rfl)
    have nvf : ¬ gw = gf := fun e => hd 3 0 (by omega) (by omega) (by omega) gw (by rw [e3]; rfl) (by rw [e0, e]; rfl)
    have nvl : ¬ gw = gl := fun e => hd 3 1 (by omega) (by omega) (by omega) gw (by rw [e3]; rfl) (by rw [e1, e]; rfl)
    have nvu : ¬ gw = gu := fun e => hd 3 2 (by omega) (by omega) (by omega) gw (by rw [e3]; rfl) (by rw [e2, e]; rfl)
    have nvc : ¬ gw = gc := fun e => hd 3 6 (by omega) (by omega) (by omega) gw (by rw [e3]; rfl) (by rw [e6, e]; rfl)
    have ncf : ¬ gc = gf := fun e => hd 6 0 (by omega) (by omega) (by omega) gc (by rw [e6]; rfl) (by rw [e0, e]; rfl)
    have ncl : ¬ gc = gl := fun e => hd 6 1 (by omega) (by omega) (by omega) gc (by rw [e6]; rfl) (by rw [e1, e]; rfl)
    have ncu : ¬ gc = gu := fun e => hd 6 2 (by omega) (by omega) (by omega) gc (by rw [e6]; rfl) (by rw [e2, e]; rfl)
    have ncv : ¬ gc = gw := fun e => hd 6 3 (by omega) (by omega) (by omega) gc (by rw [e6]; rfl) (by rw [e3, e]; rfl)
    have b0 := b0 gf (by rw [e0]; rfl)
    have b1 := b1 gl (by rw [e1]; rfl)
    have b2 := b2 gu (by rw [e2]; rfl)
    have b3 := b3 gw (by rw [e3]; rfl)
    have b6 := b6 gc (by rw [e6]; rfl)
    simp only [Free.actOf, chU, e0, e1, e2, e3, e4, e5, e6, act_allC, if_true]
    clear hr hd e0 e1 e2 e3 e4 e5 e6
    have c0 : W.cell? ⟨gc, 0, none⟩ = some (.slice none 0 0) := by simp [World.cell?, HC6]
    have c1 : W.cell? ⟨gc, 1, none⟩ = some (.slice none 0 0) := by simp [World.cell?, HC6]
    have c2 : W.cell? ⟨gc, 2, none⟩ = some (.slice none 0 0) := by simp [World.cell?, HC6]
    have c3 : W.cell? ⟨gc, 3, none⟩ = some (.slice none 0 0) := by simp [World.cell?, HC6]
    have f0 : ∀ i, W.frozen? ⟨gc, i, none⟩ = false := fun i => by simp [World.frozen?, HC6]
    have f00 := f0 0
    have f01 := f0 1
    have f02 := f0 2
    have f03 := f0 3
    clear f0
    have HHC := Lib.hid HC6
    clear HC6
    refine wpAnyH_ready (rs := [11]) (by kernel_rfl) (by simp) ?_
    refine AllReadyH.cons (o := _) rfl (fun K hK => ?_) AllReadyH.nil
    go_simp
    refine hK.out _ _ trivial (fun _ => ?_)
    clear hK K
    try simp only [act_allC]
    refine wpAnyH_done (by kernel_rfl) ?_ _
    have hsz0 := hb.size
    simp only [World.size_alloc, World.drew] at hsz0
    have hW1 : w.heap.size + 1 ≤ W.heap.size := by simpa using hsz0
    have bc : w.heap.size + 1 ≤ gc := by simpa using b6.1
    have bf : w.heap.size + 1 ≤ gf := by simpa using b0.1
    have bl : w.heap.size + 1 ≤ gl := by simpa using b1.1
    have bu : w.heap.size + 1 ≤ gu := by simpa using b2.1
    have bw : w.heap.size + 1 ≤ gw := by simpa using b3.1
    have HB0 : Hid (Below w.heap.size w W) := Lib.hid (((Below.refl _ w).alloc (Nat.le_refl _) _).drew.trans (hb.mono (by simp)))
    have hres : ∀ i, i < 4 → W.cell? ⟨w.heap.size, i, none⟩ = some (.slice none 0 0) ∧ W.frozen? ⟨w.heap.size, i, none⟩ = false := fun i hi => by
      have e : W.heap[w.heap.size]? = some (.cells #[.slice none 0 0, .slice none 0 0, .slice none 0 0, .slice none 0 0] 80) := (hb.block _ (by simp)).trans (heap_new w _)
      refine ⟨?_, by simp [World.frozen?, e]⟩
      match i, hi with
      | 0, _ => simp [World.cell?, e]
      | 1, _ => simp [World.cell?, e]
      | 2, _ => simp [World.cell?, e]
      | 3, _ => simp [World.cell?, e]
    have ncr : ¬ gc = w.heap.size := by omega
    have HNE : Hid (NeC w.heap.size gc gf gl gu gw) := Lib.hid ⟨by omega, by omega, by omega, by omega, ncf, ncl, ncu, ncv, nfl, nfu, nfv, nlu, nlv, nuv⟩
    have HWF : Hid (StC ((((W.setCell ⟨gc, 0, none⟩ (.slice (some ⟨gf, 0, none⟩) h h)).setCell ⟨gc, 1, none⟩ (.slice (some ⟨gl, 0, none⟩) h h)).setCell ⟨gc, 2, none⟩ (.slice (some ⟨gu, 0, none⟩) h h)).setCell ⟨gc, 3, none⟩ (.slice (some ⟨gw, 0, none⟩) h h)) w.heap.size gc h gf gl gu gw (fun _ => false) (fun _ => false) (fun _ => 0) (fun _ => 0)) := Lib.hid ⟨fun i hi => by
      obtain ⟨a0, a1⟩ := hres i hi
      exact ⟨by go_cell, by go_cell⟩, by go_cell, by go_cell, by go_cell, by go_cell, (((HF0.other ncf).other ncf).other ncf).other ncf, (((HL0.other ncl).other ncl).other ncl).other ncl, (((HU0.other ncu).other ncu).other ncu).other ncu, (((HV0.other ncv).other ncv).other ncv).other ncv⟩
    have HB1 : Hid (Below w.heap.size w ((((W.setCell ⟨gc, 0, none⟩ (.slice (some ⟨gf, 0, none⟩) h h)).setCell ⟨gc, 1, none⟩ (.slice (some ⟨gl, 0, none⟩) h h)).setCell ⟨gc, 2, none⟩ (.slice (some ⟨gu, 0, none⟩) h h)).setCell ⟨gc, 3, none⟩ (.slice (some ⟨gw, 0, none⟩) h h))) := Lib.hid ((((HB0.out.setCell (by simp; omega) _).setCell (by simp; omega) _).setCell (by simp; omega) _).setCell (by simp; omega) _)
    have HBK := Lib.hid (And.intro bc (And.intro bf (And.intro bl (And.intro bu bw))))
    have m1 : ¬ gf = gc := fun e => ncf e.symm
    have m2 : ¬ gl = gc := fun e => ncl e.symm
    clear hres ncr bc bf bl bu bw hW1 hsz0 HB0 hb b0 b1 b2 b3 b6 c0 c1 c2 c3 f00 f01 f02 f03 HF0 HL0 HU0 HV0 HHC hHeld hmkI hmkB
    generalize ((((W.setCell ⟨gc, 0, none⟩ (.slice (some ⟨gf, 0, none⟩) h h)).setCell ⟨gc, 1, none⟩ (.slice (some ⟨gl, 0, none⟩) h h)).setCell ⟨gc, 2, none⟩ (.slice (some ⟨gu, 0, none⟩) h h)).setCell ⟨gc, 3, none⟩ (.slice (some ⟨gw, 0, none⟩) h h)) = WX at *
    go_wp2_with fail
    go_loopw [30] (fun iv wr => ∃ (i : Nat) (ff fl : Nat → Bool) (f0 f1 : Nat → Int), iv = .int .i64 (i : Int) ∧ i ≤ L ∧ Hid (StC wr w.heap.size gc h gf gl gu gw ff fl f0 f1) ∧ Hid (∀ x, LIn p q i s kk x → OkC p q σ ff fl f0 f1 x) ∧ Hid (Below w.heap.size w wr)) (fun iv _ => L - (intOf iv).toNat)
    case atStart => exact ⟨0, _, _, _, _, rfl, Nat.zero_le _, HWF, Lib.hid (fun x hx => absurd hx lin_zero), HB1⟩
    case round =>
      clear HWF HB1
      obtain ⟨i, ff, fl, f0, f1, rfl, hi, HS, HOK, HB⟩ := hrel
      by_cases hlt : i < L
      · have hlt' : (i : Int) < (L : Int) := by omega
        have i0 : (0 : Int) ≤ (i : Int) := by omega
        have i16 : (i : Int) < 16 := by have h9 := HN.out; omega
        have hv := HV.out.keep HB.out
        have cv : wr.cell? ⟨gv, i, none⟩ = some (.slice (some ⟨G i, 0, none⟩) (2 * kk i) (C i)) := (hv.own.cellAt i (by omega)).trans (rowsV_get _ _ _ hlt)
        obtain ⟨l, hl⟩ : ∃ l, 2 * kk i = l := ⟨_, rfl⟩
        rw [hl] at cv
        have HL := Lib.hid hl
        have HI := Lib.hid (And.intro hi hlt)
        have l0 : (l : Int) ≤ 1000 := by have h9 := HKK.out i hlt; have h8 := HN.out; omega
        clear hv hl hi hlt
        go_wp2_with fail
        go_loopw [37] (fun iv wr => ∃ (k : Nat) (ff fl : Nat → Bool) (f0 f1 : Nat → Int), iv = .int .i64 (k : Int) ∧ k ≤ l ∧ Hid (StC wr w.heap.size gc h gf gl gu gw ff fl f0 f1) ∧ Hid (∀ x, (LIn p q i s kk x ∨ ∃ j, j < k ∧ x = lpF p q (s i) j) → OkC p q σ ff fl f0 f1 x) ∧ Hid (Below w.heap.size w wr)) (fun iv _ => l - (intOf iv).toNat)
        case atStart => exact ⟨0, ff, fl, f0, f1, rfl, Nat.zero_le _, HS, Lib.hid (fun x hx => hx.elim (fun h => HOK.out x h) fun ⟨j, hj, _⟩ => by omega), HB⟩
        case round =>
          clear HS HOK HB cv ff fl f0 f1
          obtain ⟨k, ff, fl, f0, f1, rfl, hk, HS, HOK, HB⟩ := hrel
          by_cases hlt : k < l
          · have hlt' : (k : Int) < (l : Int) := by omega
            have k0 : (0 : Int) ≤ (k : Int) := by omega
            have hv := HV.out.keep HB.out
            obtain ⟨x, hx⟩ : ∃ x, lpF p q (s i) k = x := ⟨_, rfl⟩
            have cx := ((hv.row i HI.out.2).1 k (by rw [HL.out]; exact hlt)).1
            simp only [hx] at cx
            have hxn : x < 2 * h := by
              have h1 := itt_lt HP2.out (HLP.out.at_ i HI.out.2).1 (k / 2)
              rw [← hx]; unfold lpF
              split
              · exact h1
              · exact pt_lt h1
            have hsx : σ x = (bt m i ^^ decide (k % 2 = 1)) := by
              obtain ⟨d1, d2, d3, d4⟩ := HID.out i (k / 2) HI.out.2 (by have := HL.out; omega)
              rw [← HSG.out, ← hx]; unfold sdN lpF
              by_cases e : k % 2 = 0
              · rw [if_pos e, d1, d2, decide_eq_false (by omega)]
              · rw [if_neg e, d3, d4, decide_eq_true (by omega)]
            have hhalf := half_val m i k
            rw [← hsx] at hhalf
            obtain ⟨X, hX⟩ : ∃ X, m / 2 ^ i = X := ⟨_, rfl⟩
            rw [hX] at hhalf
            have hXm : (m : Int) / 2 ^ i = (X : Int) := by rw [← hX]; simp
            have hXb : X ≤ 65536 := by
              have h9 := HN.out
              have h8 : m / 2 ^ i ≤ m := Nat.div_le_self _ _
              have h7 : 2 ^ L ≤ 2 ^ 16 := Nat.pow_le_pow_right (by omega) h9.2.2.2.1
              omega
            have X0 : (0 : Int) ≤ (X : Int) := by omega
            have Xb : (X : Int) ≤ 65536 := by omega
            have hm64 : min i 64 = i := by omega
            obtain ⟨y, hy⟩ : ∃ y, p x = y := ⟨_, rfl⟩
            have hyn : y < 2 * h := by rw [← hy]; exact HP2.out.lp x hxn
            obtain ⟨b, o, hao, hcell⟩ := (HC.out.keep HB.out) (by have h9 := HN.out; omega)
            subst hao
            have cy := hcell x (by have h9 := HN.out; omega)
            simp only [hy] at cy
            obtain ⟨a, ha⟩ : ∃ a, x / 2 = a := ⟨_, rfl⟩
            obtain ⟨d, hd⟩ : ∃ d, y / 2 = d := ⟨_, rfl⟩
            have hah : a < h := by omega
            have hdh : d < h := by omega
            have xn : (x : Int) < (n : Int) := by have h9 := HN.out; omega
            have x0 : (0 : Int) ≤ (x : Int) := by omega
            have xt : (x : Int).toNat = x := by omega
            have xa : (x : Int) / 2 = (a : Int) := by omega
            have ya : (y : Int) / 2 = (d : Int) := by omega
            have ah : (a : Int) < (h : Int) := by omega
            have dh : (d : Int) < (h : Int) := by omega
            have a0 : (0 : Int) ≤ (a : Int) := by omega
            have d0 : (0 : Int) ≤ (d : Int) := by omega
            have at' : (a : Int).toNat = a := by omega
            have dt' : (d : Int).toNat = d := by omega
            have y0 : (0 : Int) ≤ (y : Int) := by omega
            have k1 := HS.out.c0
            have k2 := HS.out.c1
            have k3 := HS.out.c2
            have k4 := HS.out.c3
            obtain ⟨q1, q2⟩ := HS.out.f a hah
            obtain ⟨q3, q4⟩ := HS.out.l d hdh
            obtain ⟨q5, q6⟩ := HS.out.u a hah
            obtain ⟨q7, q8⟩ := HS.out.v a hah
            have g1 := good_first HGO.out hxn
            have g2 := good_last HP2.out HGO.out hxn
            rw [ha] at g1
            rw [hy, hd] at g2
            have HX := Lib.hid (And.intro hx (And.intro hy (And.intro ha (And.intro hd (And.intro hxn (And.intro hah (And.intro hdh (And.intro hk hlt))))))))
            clear hv hX hXb hcell hx hy ha hd hyn hk hlt hsx
            cases hs : σ x with
            | false =>
              rw [hs] at hhalf g1 g2
              have hf : ((X : Int) + (k : Int)) % 2 = 0 := by rw [if_neg (by decide)] at hhalf; omega
              have HSX := Lib.hid hs
              clear hhalf hs
              by_cases ex : x % 2 = 0
              · rw [if_pos ex] at g1
                have hx2 : (x : Int) % 2 = 0 := by omega
                clear ex
                by_cases ey : y % 2 = 0
                · rw [if_pos ey] at g2
                  have hy2 : (y : Int) % 2 = 0 := by omega
                  have HS2 : Hid (StC (((wr.setCell ⟨gf, a, none⟩ (.bool false)).setCell ⟨gl, d, none⟩ (.bool false)).setCell ⟨gu, a, none⟩ (.int .i64 (d : Int))) w.heap.size gc h gf gl gu gw (updB ff a false) (updB fl d false) (updI f0 a (d : Int)) f1) := Lib.hid (((HS.out.sf HNE.out HX.out.2.2.2.2.2.1 false).sl HNE.out HX.out.2.2.2.2.2.2.1 false).su HNE.out HX.out.2.2.2.2.2.1 (d : Int))
                  have e1 : stF σ a = false := g1
                  have e2 : σ (q (2 * d)) = false := g2
                  have HOK2 : Hid (∀ z, (LIn p q i s kk z ∨ ∃ j, j < k + 1 ∧ z = lpF p q (s i) j) → OkC p q σ (updB ff a false) (updB fl d false) (updI f0 a (d : Int)) f1 z) := Lib.hid (fun z hz => by
                    have h1 := OkC_upd (y := z) (p := p) (ff := ff) (fl := fl) (f0 := f0) (f1 := f1) HGO.out HX.out.2.2.2.2.1 (by
                      rcases hz with hz | ⟨j, hj, hz⟩
                      · exact Or.inl (HOK.out z (Or.inl hz))
                      · by_cases e : j = k
                        · subst e; exact Or.inr (hz.trans HX.out.1)
                        · exact Or.inl (HOK.out z (Or.inr ⟨j, by omega, hz⟩)))
                    rw [HX.out.2.1, HX.out.2.2.1, HX.out.2.2.2.1, e1, e2, HSX.out] at h1
                    exact h1)
                  have HB2 : Hid (Below w.heap.size w (((wr.setCell ⟨gf, a, none⟩ (.bool false)).setCell ⟨gl, d, none⟩ (.bool false)).setCell ⟨gu, a, none⟩ (.int .i64 (d : Int)))) := Lib.hid (((HB.out.setCell (by have := HBK.out; simp; omega) _).setCell (by have := HBK.out; simp; omega) _).setCell (by have := HBK.out; simp; omega) _)
                  clear g1 g2 e1 e2 ey HS HOK HB
                  go_wp2_with fail
                  go_roundw
                  case rel => exact ⟨k + 1, _, _, _, _, by first | rfl | go_num, by have := HX.out; omega, HS2, HOK2, HB2⟩
                  case measure => have := HX.out; first | (simp [intOf]; done) | (simp [intOf]; omega)
                · rw [if_neg ey] at g2
                  have hy2 : (y : Int) % 2 = 1 := by omega
                  have HS2 : Hid (StC (((wr.setCell ⟨gf, a, none⟩ (.bool false)).setCell ⟨gl, d, none⟩ (.bool true)).setCell ⟨gu, a, none⟩ (.int .i64 (d : Int))) w.heap.size gc h gf gl gu gw (updB ff a false) (updB fl d true) (updI f0 a (d : Int)) f1) := Lib.hid (((HS.out.sf HNE.out HX.out.2.2.2.2.2.1 false).sl HNE.out HX.out.2.2.2.2.2.2.1 true).su HNE.out HX.out.2.2.2.2.2.1 (d : Int))
                  have e1 : stF σ a = false := g1
                  have e2 : σ (q (2 * d)) = true := g2
                  have HOK2 : Hid (∀ z, (LIn p q i s kk z ∨ ∃ j, j < k + 1 ∧ z = lpF p q (s i) j) → OkC p q σ (updB ff a false) (updB fl d true) (updI f0 a (d : Int)) f1 z) := Lib.hid (fun z hz => by
                    have h1 := OkC_upd (y := z) (p := p) (ff := ff) (fl := fl) (f0 := f0) (f1 := f1) HGO.out HX.out.2.2.2.2.1 (by
                      rcases hz with hz | ⟨j, hj, hz⟩
                      · exact Or.inl (HOK.out z (Or.inl hz))
                      · by_cases e : j = k
                        · subst e; exact Or.inr (hz.trans HX.out.1)
                        · exact Or.inl (HOK.out z (Or.inr ⟨j, by omega, hz⟩)))
                    rw [HX.out.2.1, HX.out.2.2.1, HX.out.2.2.2.1, e1, e2, HSX.out] at h1
                    exact h1)
                  have HB2 : Hid (Below w.heap.size w (((wr.setCell ⟨gf, a, none⟩ (.bool false)).setCell ⟨gl, d, none⟩ (.bool true)).setCell ⟨gu, a, none⟩ (.int .i64 (d : Int)))) := Lib.hid (((HB.out.setCell (by have := HBK.out; simp; omega) _).setCell (by have := HBK.out; simp; omega) _).setCell (by have := HBK.out; simp; omega) _)
                  clear g1 g2 e1 e2 ey HS HOK HB
                  go_wp2_with fail
                  go_roundw
                  case rel => exact ⟨k + 1, _, _, _, _, by first | rfl | go_num, by have := HX.out; omega, HS2, HOK2, HB2⟩
                  case measure => have := HX.out; first | (simp [intOf]; done) | (simp [intOf]; omega)
              · rw [if_neg ex] at g1
                have hx2 : (x : Int) % 2 = 1 := by omega
                clear ex
                by_cases ey : y % 2 = 0
                · rw [if_pos ey] at g2
                  have hy2 : (y : Int) % 2 = 0 := by omega
                  have HS2 : Hid (StC (((wr.setCell ⟨gf, a, none⟩ (.bool true)).setCell ⟨gl, d, none⟩ (.bool false)).setCell ⟨gu, a, none⟩ (.int .i64 (d : Int))) w.heap.size gc h gf gl gu gw (updB ff a true) (updB fl d false) (updI f0 a (d : Int)) f1) := Lib.hid (((HS.out.sf HNE.out HX.out.2.2.2.2.2.1 true).sl HNE.out HX.out.2.2.2.2.2.2.1 false).su HNE.out HX.out.2.2.2.2.2.1 (d : Int))
                  have e1 : stF σ a = true := g1
                  have e2 : σ (q (2 * d)) = false := g2
                  have HOK2 : Hid (∀ z, (LIn p q i s kk z ∨ ∃ j, j < k + 1 ∧ z = lpF p q (s i) j) → OkC p q σ (updB ff a true) (updB fl d false) (updI f0 a (d : Int)) f1 z) := Lib.hid (fun z hz => by
                    have h1 := OkC_upd (y := z) (p := p) (ff := ff) (fl := fl) (f0 := f0) (f1 := f1) HGO.out HX.out.2.2.2.2.1 (by
                      rcases hz with hz | ⟨j, hj, hz⟩
                      · exact Or.inl (HOK.out z (Or.inl hz))
                      · by_cases e : j = k
                        · subst e; exact Or.inr (hz.trans HX.out.1)
                        · exact Or.inl (HOK.out z (Or.inr ⟨j, by omega, hz⟩)))
                    rw [HX.out.2.1, HX.out.2.2.1, HX.out.2.2.2.1, e1, e2, HSX.out] at h1
                    exact h1)
                  have HB2 : Hid (Below w.heap.size w (((wr.setCell ⟨gf, a, none⟩ (.bool true)).setCell ⟨gl, d, none⟩ (.bool false)).setCell ⟨gu, a, none⟩ (.int .i64 (d : Int)))) := Lib.hid (((HB.out.setCell (by have := HBK.out; simp; omega) _).setCell (by have := HBK.out; simp; omega) _).setCell (by have := HBK.out; simp; omega) _)
                  clear g1 g2 e1 e2 ey HS HOK HB
                  go_wp2_with fail
                  go_roundw
                  case rel => exact ⟨k + 1, _, _, _, _, by first | rfl | go_num, by have := HX.out; omega, HS2, HOK2, HB2⟩
                  case measure => have := HX.out; first | (simp [intOf]; done) | (simp [intOf]; omega)
                · rw [if_neg ey] at g2
                  have hy2 : (y : Int) % 2 = 1 := by omega
                  have HS2 : Hid (StC (((wr.setCell ⟨gf, a, none⟩ (.bool true)).setCell ⟨gl, d, none⟩ (.bool true)).setCell ⟨gu, a, none⟩ (.int .i64 (d : Int))) w.heap.size gc h gf gl gu gw (updB ff a true) (updB fl d true) (updI f0 a (d : Int)) f1) := Lib.hid (((HS.out.sf HNE.out HX.out.2.2.2.2.2.1 true).sl HNE.out HX.out.2.2.2.2.2.2.1 true).su HNE.out HX.out.2.2.2.2.2.1 (d : Int))
                  have e1 : stF σ a = true := g1
                  have e2 : σ (q (2 * d)) = true := g2
                  have HOK2 : Hid (∀ z, (LIn p q i s kk z ∨ ∃ j, j < k + 1 ∧ z = lpF p q (s i) j) → OkC p q σ (updB ff a true) (updB fl d true) (updI f0 a (d : Int)) f1 z) := Lib.hid (fun z hz => by
                    have h1 := OkC_upd (y := z) (p := p) (ff := ff) (fl := fl) (f0 := f0) (f1 := f1) HGO.out HX.out.2.2.2.2.1 (by
                      rcases hz with hz | ⟨j, hj, hz⟩
                      · exact Or.inl (HOK.out z (Or.inl hz))
                      · by_cases e : j = k
                        · subst e; exact Or.inr (hz.trans HX.out.1)
                        · exact Or.inl (HOK.out z (Or.inr ⟨j, by omega, hz⟩)))
                    rw [HX.out.2.1, HX.out.2.2.1, HX.out.2.2.2.1, e1, e2, HSX.out] at h1
                    exact h1)
                  have HB2 : Hid (Below w.heap.size w (((wr.setCell ⟨gf, a, none⟩ (.bool true)).setCell ⟨gl, d, none⟩ (.bool true)).setCell ⟨gu, a, none⟩ (.int .i64 (d : Int)))) := Lib.hid (((HB.out.setCell (by have := HBK.out; simp; omega) _).setCell (by have := HBK.out; simp; omega) _).setCell (by have := HBK.out; simp; omega) _)
                  clear g1 g2 e1 e2 ey HS HOK HB
                  go_wp2_with fail
                  go_roundw
                  case rel => exact ⟨k + 1, _, _, _, _, by first | rfl | go_num, by have := HX.out; omega, HS2, HOK2, HB2⟩
                  case measure => have := HX.out; first | (simp [intOf]; done) | (simp [intOf]; omega)
            | true =>
              rw [hs] at hhalf g1 g2
              have hf : ((X : Int) + (k : Int)) % 2 = 1 := by rw [if_pos rfl] at hhalf; omega
              have HSX := Lib.hid hs
              clear hhalf hs
              by_cases ex : x % 2 = 0
              · rw [if_pos ex] at g1
                have hx2 : (x : Int) % 2 = 0 := by omega
                clear ex
                by_cases ey : y % 2 = 0
                · rw [if_pos ey] at g2
                  have hy2 : (y : Int) % 2 = 0 := by omega
                  have HS2 : Hid (StC (((wr.setCell ⟨gf, a, none⟩ (.bool true)).setCell ⟨gl, d, none⟩ (.bool true)).setCell ⟨gw, a, none⟩ (.int .i64 (d : Int))) w.heap.size gc h gf gl gu gw (updB ff a true) (updB fl d true) f0 (updI f1 a (d : Int))) := Lib.hid (((HS.out.sf HNE.out HX.out.2.2.2.2.2.1 true).sl HNE.out HX.out.2.2.2.2.2.2.1 true).sv HNE.out HX.out.2.2.2.2.2.1 (d : Int))
                  have e1 : stF σ a = true := g1
                  have e2 : σ (q (2 * d)) = true := g2
                  have HOK2 : Hid (∀ z, (LIn p q i s kk z ∨ ∃ j, j < k + 1 ∧ z = lpF p q (s i) j) → OkC p q σ (updB ff a true) (updB fl d true) f0 (updI f1 a (d : Int)) z) := Lib.hid (fun z hz => by
                    have h1 := OkC_upd (y := z) (p := p) (ff := ff) (fl := fl) (f0 := f0) (f1 := f1) HGO.out HX.out.2.2.2.2.1 (by
                      rcases hz with hz | ⟨j, hj, hz⟩
                      · exact Or.inl (HOK.out z (Or.inl hz))
                      · by_cases e : j = k
                        · subst e; exact Or.inr (hz.trans HX.out.1)
                        · exact Or.inl (HOK.out z (Or.inr ⟨j, by omega, hz⟩)))
                    rw [HX.out.2.1, HX.out.2.2.1, HX.out.2.2.2.1, e1, e2, HSX.out] at h1
                    exact h1)
                  have HB2 : Hid (Below w.heap.size w (((wr.setCell ⟨gf, a, none⟩ (.bool true)).setCell ⟨gl, d, none⟩ (.bool true)).setCell ⟨gw, a, none⟩ (.int .i64 (d : Int)))) := Lib.hid (((HB.out.setCell (by have := HBK.out; simp; omega) _).setCell (by have := HBK.out; simp; omega) _).setCell (by have := HBK.out; simp; omega) _)
                  clear g1 g2 e1 e2 ey HS HOK HB
                  go_wp2_with fail
                  go_roundw
                  case rel => exact ⟨k + 1, _, _, _, _, by first | rfl | go_num, by have := HX.out; omega, HS2, HOK2, HB2⟩
                  case measure => have := HX.out; first | (simp [intOf]; done) | (simp [intOf]; omega)
                · rw [if_neg ey] at g2
                  have hy2 : (y : Int) % 2 = 1 := by omega
                  have HS2 : Hid (StC (((wr.setCell ⟨gf, a, none⟩ (.bool true)).setCell ⟨gl, d, none⟩ (.bool false)).setCell ⟨gw, a, none⟩ (.int .i64 (d : Int))) w.heap.size gc h gf gl gu gw (updB ff a true) (updB fl d false) f0 (updI f1 a (d : Int))) := Lib.hid (((HS.out.sf HNE.out HX.out.2.2.2.2.2.1 true).sl HNE.out HX.out.2.2.2.2.2.2.1 false).sv HNE.out HX.out.2.2.2.2.2.1 (d : Int))
                  have e1 : stF σ a = true := g1
                  have e2 : σ (q (2 * d)) = false := g2
                  have HOK2 : Hid (∀ z, (LIn p q i s kk z ∨ ∃ j, j < k + 1 ∧ z = lpF p q (s i) j) → OkC p q σ (updB ff a true) (updB fl d false) f0 (updI f1 a (d : Int)) z) := Lib.hid (fun z hz => by
                    have h1 := OkC_upd (y := z) (p := p) (ff := ff) (fl := fl) (f0 := f0) (f1 := f1) HGO.out HX.out.2.2.2.2.1 (by
                      rcases hz with hz | ⟨j, hj, hz⟩
                      · exact Or.inl (HOK.out z (Or.inl hz))
                      · by_cases e : j = k
                        · subst e; exact Or.inr (hz.trans HX.out.1)
                        · exact Or.inl (HOK.out z (Or.inr ⟨j, by omega, hz⟩)))
                    rw [HX.out.2.1, HX.out.2.2.1, HX.out.2.2.2.1, e1, e2, HSX.out] at h1
                    exact h1)
                  have HB2 : Hid (Below w.heap.size w (((wr.setCell ⟨gf, a, none⟩ (.bool true)).setCell ⟨gl, d, none⟩ (.bool false)).setCell ⟨gw, a, none⟩ (.int .i64 (d : Int)))) := Lib.hid (((HB.out.setCell (by have := HBK.out; simp; omega) _).setCell (by have := HBK.out; simp; omega) _).setCell (by have := HBK.out; simp; omega) _)
                  clear g1 g2 e1 e2 ey HS HOK HB
                  go_wp2_with fail
                  go_roundw
                  case rel => exact ⟨k + 1, _, _, _, _, by first | rfl | go_num, by have := HX.out; omega, HS2, HOK2, HB2⟩
                  case measure => have := HX.out; first | (simp [intOf]; done) | (simp [intOf]; omega)
              · rw [if_neg ex] at g1
                have hx2 : (x : Int) % 2 = 1 := by omega
                clear ex
                by_cases ey : y % 2 = 0
                · rw [if_pos ey] at g2
                  have hy2 : (y : Int) % 2 = 0 := by omega
                  have HS2 : Hid (StC (((wr.setCell ⟨gf, a, none⟩ (.bool false)).setCell ⟨gl, d, none⟩ (.bool true)).setCell ⟨gw, a, none⟩ (.int .i64 (d : Int))) w.heap.size gc h gf gl gu gw (updB ff a false) (updB fl d true) f0 (updI f1 a (d : Int))) := Lib.hid (((HS.out.sf HNE.out HX.out.2.2.2.2.2.1 false).sl HNE.out HX.out.2.2.2.2.2.2.1 true).sv HNE.out HX.out.2.2.2.2.2.1 (d : Int))
                  have e1 : stF σ a = false := g1
                  have e2 : σ (q (2 * d)) = true := g2
                  have HOK2 : Hid (∀ z, (LIn p q i s kk z ∨ ∃ j, j < k + 1 ∧ z = lpF p q (s i) j) → OkC p q σ (updB ff a false) (updB fl d true) f0 (updI f1 a (d : Int)) z) := Lib.hid (fun z hz => by
                    have h1 := OkC_upd (y := z) (p := p) (ff := ff) (fl := fl) (f0 := f0) (f1 := f1) HGO.out HX.out.2.2.2.2.1 (by
                      rcases hz with hz | ⟨j, hj, hz⟩
                      · exact Or.inl (HOK.out z (Or.inl hz))
                      · by_cases e : j = k
                        · subst e; exact Or.inr (hz.trans HX.out.1)
                        · exact Or.inl (HOK.out z (Or.inr ⟨j, by omega, hz⟩)))
                    rw [HX.out.2.1, HX.out.2.2.1, HX.out.2.2.2.1, e1, e2, HSX.out] at h1
                    exact h1)
                  have HB2 : Hid (Below w.heap.size w (((wr.setCell ⟨gf, a, none⟩ (.bool false)).setCell ⟨gl, d, none⟩ (.bool true)).setCell ⟨gw, a, none⟩ (.int .i64 (d : Int)))) := Lib.hid (((HB.out.setCell (by have := HBK.out; simp; omega) _).setCell (by have := HBK.out; simp; omega) _).setCell (by have := HBK.out; simp; omega) _)
                  clear g1 g2 e1 e2 ey HS HOK HB
                  go_wp2_with fail
                  go_roundw
                  case rel => exact ⟨k + 1, _, _, _, _, by first | rfl | go_num, by have := HX.out; omega, HS2, HOK2, HB2⟩
                  case measure => have := HX.out; first | (simp [intOf]; done) | (simp [intOf]; omega)
                · rw [if_neg ey] at g2
                  have hy2 : (y : Int) % 2 = 1 := by omega
                  have HS2 : Hid (StC (((wr.setCell ⟨gf, a, none⟩ (.bool false)).setCell ⟨gl, d, none⟩ (.bool false)).setCell ⟨gw, a, none⟩ (.int .i64 (d : Int))) w.heap.size gc h gf gl gu gw (updB ff a false) (updB fl d false) f0 (updI f1 a (d : Int))) := Lib.hid (((HS.out.sf HNE.out HX.out.2.2.2.2.2.1 false).sl HNE.out HX.out.2.2.2.2.2.2.1 false).sv HNE.out HX.out.2.2.2.2.2.1 (d : Int))
                  have e1 : stF σ a = false := g1
                  have e2 : σ (q (2 * d)) = false := g2
                  have HOK2 : Hid (∀ z, (LIn p q i s kk z ∨ ∃ j, j < k + 1 ∧ z = lpF p q (s i) j) → OkC p q σ (updB ff a false) (updB fl d false) f0 (updI f1 a (d : Int)) z) := Lib.hid (fun z hz => by
                    have h1 := OkC_upd (y := z) (p := p) (ff := ff) (fl := fl) (f0 := f0) (f1 := f1) HGO.out HX.out.2.2.2.2.1 (by
                      rcases hz with hz | ⟨j, hj, hz⟩
                      · exact Or.inl (HOK.out z (Or.inl hz))
                      · by_cases e : j = k
                        · subst e; exact Or.inr (hz.trans HX.out.1)
                        · exact Or.inl (HOK.out z (Or.inr ⟨j, by omega, hz⟩)))
                    rw [HX.out.2.1, HX.out.2.2.1, HX.out.2.2.2.1, e1, e2, HSX.out] at h1
                    exact h1)
                  have HB2 : Hid (Below w.heap.size w (((wr.setCell ⟨gf, a, none⟩ (.bool false)).setCell ⟨gl, d, none⟩ (.bool false)).setCell ⟨gw, a, none⟩ (.int .i64 (d : Int)))) := Lib.hid (((HB.out.setCell (by have := HBK.out; simp; omega) _).setCell (by have := HBK.out; simp; omega) _).setCell (by have := HBK.out; simp; omega) _)
                  clear g1 g2 e1 e2 ey HS HOK HB
                  go_wp2_with fail
                  go_roundw
                  case rel => exact ⟨k + 1, _, _, _, _, by first | rfl | go_num, by have := HX.out; omega, HS2, HOK2, HB2⟩
                  case measure => have := HX.out; first | (simp [intOf]; done) | (simp [intOf]; omega)
          · have hnl : ¬ (k : Int) < (l : Int) := by omega
            have HOK2 : Hid (∀ x, LIn p q (i + 1) s kk x → OkC p q σ ff fl f0 f1 x) := Lib.hid (fun x hx => HOK.out x ((lin_lpF.1 hx).imp (fun h => h) fun ⟨j, hj, e⟩ => ⟨j, by have := HL.out; omega, e⟩))
            clear hlt hk HOK
            go_wp2_with fail
            go_roundw
            case rel => exact ⟨i + 1, ff, fl, f0, f1, by first | rfl | go_num, by have := HI.out; omega, HS, HOK2, HB⟩
            case measure => have := HI.out; first | (simp [intOf]; done) | (simp [intOf]; omega)
      · have hnl : ¬ (i : Int) < (L : Int) := by omega
        have hiL : i = L := by omega
        have HALL := Lib.hid (OkC_all HP2.out HGO.out (fun x hx => HOK.out x (by rw [hiL]; exact HLP.out.all x hx)))
        have k1 := HS.out.c0
        have k2 := HS.out.c1
        have k3 := HS.out.c2
        have k4 := HS.out.c3
        obtain ⟨r0, r1⟩ := HS.out.r 0 (by omega)
        obtain ⟨r2, r3⟩ := HS.out.r 1 (by omega)
        obtain ⟨r4, r5⟩ := HS.out.r 2 (by omega)
        obtain ⟨r6, r7⟩ := HS.out.r 3 (by omega)
        clear hi hlt hiL HOK
        go_wp2_with fail
        refine bodyPost_ret (v := .agg #[.slice (some ⟨gf, 0, none⟩) h h, .slice (some ⟨gl, 0, none⟩) h h, .slice (some ⟨gu, 0, none⟩) h h, .slice (some ⟨gw, 0, none⟩) h h]) (by simp [results, Try.results84, go_sem, *]) rfl ⟨⟨gf, gl, gu, gw, rfl, ?_, ?_, ?_, ?_⟩, ?_⟩
        · exact ((((HS.out.f.congr HALL.out.1).other HNE.out.rf).other HNE.out.rf).other HNE.out.rf).other HNE.out.rf
        · exact ((((HS.out.l.congr HALL.out.2.1).other HNE.out.rl).other HNE.out.rl).other HNE.out.rl).other HNE.out.rl
        · exact ((((HS.out.u.congr HALL.out.2.2.1).other HNE.out.ru).other HNE.out.ru).other HNE.out.ru).other HNE.out.ru
        · exact ((((HS.out.v.congr HALL.out.2.2.2).other HNE.out.rw).other HNE.out.rw).other HNE.out.rw).other HNE.out.rw
        · exact (((HB.out.setCell (by simp) _).setCell (by simp) _).setCell (by simp) _).setCell (by simp) _
end Go.Proofs.Ytfilofnkiocbeaa
