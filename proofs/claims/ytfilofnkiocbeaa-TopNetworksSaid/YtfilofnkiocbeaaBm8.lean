import Derived.Test.YtfilofnkiocbeaaBg8
import Derived.Test.YtfilofnkiocbeaaBj8
import Derived.Test.YtfilofnkiocbeaaBl8
namespace Ben
open Go
/-- Truth values as cells. -/
def cellsB (f : Nat → Bool) (n : Nat) : List Value := (List.range n).map fun i => Value.bool (f i)
theorem cellsB_len (f : Nat → Bool) (n : Nat) : (cellsB f n).length = n := by simp [cellsB]
theorem cellsB_get (f : Nat → Bool) {n i : Nat} (h : i < n) : (cellsB f n)[i]? = some (.bool (f i)) := by simp [cellsB, h]
theorem cellsB_one (f : Nat → Bool) (n : Nat) : ∀ u ∈ cellsB f n, u.oneCell' = true := by
  intro u hu
  simp only [cellsB, List.mem_map] at hu
  obtain ⟨i, _, rfl⟩ := hu
  rfl
theorem cellsB_congr {f g : Nat → Bool} {n : Nat} (h : ∀ i, i < n → f i = g i) : cellsB f n = cellsB g n := by
  unfold cellsB
  refine List.map_congr_left fun i hi => ?_
  rw [h i (List.mem_range.1 hi)]
theorem cellsB_add (f : Nat → Bool) (m n : Nat) : cellsB f (m + n) = cellsB f m ++ cellsB (fun j => f (m + j)) n := by
  induction n with
  | zero => simp [cellsB]
  | succ n ih =>
    have e : ∀ (g : Nat → Bool) (q : Nat), cellsB g (q + 1) = cellsB g q ++ [.bool (g q)] := fun g q => by simp [cellsB, List.range_succ]
    rw [show m + (n + 1) = (m + n) + 1 by omega, e, ih, e, List.append_assoc]
/-- The mirror of a list of settings, part by part. -/
theorem mir_parts (f : Nat → Bool) (k : Nat) : cellsB (fun j => f (mi (k + 1) j)) (cn (k + 1)) = ((cellsB (fun j => f (sz k + j)) (sz k) ++ cellsB f (sz k)) ++ cellsB (fun j => f (sz (k + 1) + mi k j)) (cn k)) ++ cellsB (fun j => f (sz (k + 1) + cn k + mi k j)) (cn k) := by
  have hs : sz (k + 1) = 2 * sz k := rfl
  rw [show cn (k + 1) = ((sz k + sz k) + cn k) + cn k by show sz (k + 1) + 2 * cn k = _; omega, cellsB_add, cellsB_add, cellsB_add]
  congr 1
  · congr 1
    · congr 1
      · exact cellsB_congr fun j hj => by rw [mi_first hj]
      · exact cellsB_congr fun j hj => by rw [mi_last hj]
    · refine cellsB_congr fun j hj => ?_
      have := @mi_half k 0 j (by omega) hj
      rw [show sz k + sz k + j = sz (k + 1) + 0 * cn k + j by omega, this, Nat.zero_mul, Nat.add_zero]
  · refine cellsB_congr fun j hj => ?_
    have := @mi_half k 1 j (by omega) hj
    rw [show sz k + sz k + cn k + j = sz (k + 1) + 1 * cn k + j by omega, this, Nat.one_mul]
/-- Four things as a function. -/
def f4 {α : Type} (a b c d : α) : Nat → α
  | 0 => a
  | 1 => b
  | 2 => c
  | _ => d
theorem all4 {P : Nat → Prop} (h0 : P 0) (h1 : P 1) (h2 : P 2) (h3 : P 3) : ∀ i, i < 4 → P i := by
  intro i hi
  have : i = 0 ∨ i = 1 ∨ i = 2 ∨ i = 3 := by omega
  rcases this with rfl | rfl | rfl | rfl
  · exact h0
  · exact h1
  · exact h2
  · exact h3
end Ben
namespace Go.Proofs.Ytfilofnkiocbeaa
open Go.RowKit Ben
/-- Block g holds from o on n truth values. -/
def Bl (w : World) (g o n : Nat) (f : Nat → Bool) : Prop := ∀ j, j < n → w.cell? ⟨g, o + j, none⟩ = some (.bool (f j))
theorem Bl.keep {w w1 : World} {g o n : Nat} {f : Nat → Bool} (h : Bl w g o n f) (hb : Below w.heap.size w w1) : Bl w1 g o n f := fun j hj => ((bcl hb).1 _ _ (World.block_lt_of_cell? w _ (h j hj))).trans (h j hj)
theorem Bl.part {w : World} {g o n : Nat} {f : Nat → Bool} (h : Bl w g o n f) (a m : Nat) (hm : a + m ≤ n) : Bl w g (o + a) m (fun j => f (a + j)) := fun j hj => by
  rw [show o + a + j = o + (a + j) by omega]; exact h (a + j) (by omega)
theorem Bl.lst {w : World} {g o n : Nat} {f : Nat → Bool} (h : Bl w g o n f) : Lst w g o (cellsB f n) := by
  intro j v hv
  have hj := (List.getElem?_eq_some_iff.1 hv).1
  rw [cellsB_len] at hj
  rw [cellsB_get f hj] at hv
  exact (h j hj).trans hv
theorem Bl.lst0 {w : World} {g o n : Nat} {f : Nat → Bool} (h : Bl w g (o + 0) n (fun j => f (0 + j))) : Lst w g o (cellsB f n) := by
  have h2 : Bl w g o n f := fun j hj => by have := h j hj; simp only [Nat.add_zero, Nat.zero_add] at this; exact this
  exact h2.lst
theorem Bl.of_own {w : World} {B g n cap : Nat} {f : Nat → Bool} (h : w.ownsRow B 4 1 (.slice (some ⟨g, 0, none⟩) n cap) n (cellsB f n)) : Bl w g 0 n f := fun j hj => by
  rw [Nat.zero_add]
  exact (h.cellAt j (by omega)).trans (cellsB_get f hj)
theorem Bl.bools {w : World} {g o n : Nat} {f : Nat → Bool} (h : Bl w g o n f) : Bools w (some ⟨g, o, none⟩) n f := fun _ => ⟨g, o, rfl, h⟩
set_option maxRecDepth 100000 in
set_option maxHeartbeats 4000000 in
theorem cloneB_any (n cap b o : Nat) (f : Nat → Bool) (w : World) (h1 : 1 ≤ n) (hn : n ≤ 80) (hc : Bl w b o n f) :
    Calls Try.prog 77 #[.slice (some ⟨b, o, none⟩) n cap] w fun e w' => OwnRet_B w.heap.size w' e n (cellsB f n) ∧ Below w.heap.size w w' := by
  obtain ⟨i0, hi, hz0, hz1, hz2⟩ := info_parts infoBool
  have HI := Lib.hid (And.intro hi (And.intro hz0 (And.intro hz1 hz2)))
  have HC := Lib.hid hc
  have hnil := fun (w : World) (a : Option Addr) (m c : Nat) => Lib.run_eql_slice_nil (P := Try.prog) w 27 4 a m c 0 0 Try.underlying27
  clear hi hz0 hz1 hz2 hc
  go_enter Try.func77, Try.ntmps77
  go_wp2_with (at_builtin; refine wpList_append_own _ rfl (.tmp 5) (.tmp 6) 27 rfl w.heap.size 4 i0 _ 1 1 Try.underlying27 HI.out.1 HI.out.2.1 HI.out.2.2.1 HI.out.2.2.2 rfl (by decide) _ 0 [] rfl (World.ownsRow_made w #[] 0 (Nat.le_refl _) (by unfold maxLen; omega) rfl) ⟨b, o, none⟩ n cap (cellsB f n) rfl ?c0 ?c1 ?c2 ?c3 ?c4 ?c5 ?_)
  case c0 => rw [cellsB_len]; omega
  case c1 =>
    intro j u hu
    have hj : j < n := by have := (List.getElem?_eq_some_iff.1 hu).1; rwa [cellsB_len] at this
    rw [cellsB_get f hj] at hu
    rw [Addr.add_lit, ← hu]
    have hb : b < w.heap.size := World.block_lt_of_cell? w _ (HC.out j hj)
    exact (((Below.refl _ _).alloc (Nat.le_refl _) _).cell (p := ⟨b, o + j, none⟩) hb).trans (HC.out j hj)
  case c2 => exact cellsB_one f n
  case c3 => unfold maxLen; omega
  case c4 => omega
  case c5 => first | omega | (simp; done) | (simp; omega)
  intro v' w2 hown hgrow _
  (try simp only [Nat.zero_add, List.nil_append] at hown)
  obtain ⟨g, cap', rfl, hgB, hgs, hgc, hgm⟩ := own_fm hown h1
  have HW := Lib.hid hown
  have D2 : Below w.heap.size w w2 := Below.grown (by go_grown) hgrow (by first | omega | (simp; done) | (simp; omega)) (fun k hk => by simp [Value.ownBlock] at hk; omega)
  clear hown hgrow hgB hgs hgc hgm
  go_wp2_with fail
  go_returns
  exact ⟨⟨_, rfl, HW.out⟩, D2⟩
set_option maxRecDepth 100000 in
set_option maxHeartbeats 4000000 in
theorem joinedB_any (p0 p1 p2 p3 q0 q1 q2 q3 c0 c1 c2 c3 : Nat) (X0 X1 X2 X3 : List Value) (w : World) (h0 : Lst w p0 q0 X0) (h1 : Lst w p1 q1 X1) (h2 : Lst w p2 q2 X2) (h3 : Lst w p3 q3 X3)
    (o0 : ∀ v ∈ X0, v.oneCell' = true) (o1 : ∀ v ∈ X1, v.oneCell' = true) (o2 : ∀ v ∈ X2, v.oneCell' = true) (o3 : ∀ v ∈ X3, v.oneCell' = true) (hl1 : 1 ≤ X0.length) (hl : X0.length + X1.length + X2.length + X3.length ≤ 1000) :
    Calls Try.prog 73 #[.agg #[.slice (some ⟨p0, q0, none⟩) X0.length c0, .slice (some ⟨p1, q1, none⟩) X1.length c1, .slice (some ⟨p2, q2, none⟩) X2.length c2, .slice (some ⟨p3, q3, none⟩) X3.length c3]] w fun e w' => OwnRet_B w.heap.size w' e (((X0 ++ X1) ++ X2) ++ X3).length (((X0 ++ X1) ++ X2) ++ X3) ∧ Below w.heap.size w w' := by
  have H := Lib.hid (And.intro h0 (And.intro h1 (And.intro h2 h3)))
  have HO := Lib.hid (And.intro o0 (And.intro o1 (And.intro o2 o3)))
  have HL := Lib.hid (And.intro hl1 hl)
  have w8 : Below w.heap.size w ((w.alloc (Obj.cells #[.slice (some ⟨p0, q0, none⟩) X0.length c0, .slice (some ⟨p1, q1, none⟩) X1.length c1, .slice (some ⟨p2, q2, none⟩) X2.length c2, .slice (some ⟨p3, q3, none⟩) X3.length c3] 83)).alloc (Obj.cells #[.slice (some ⟨p0, q0, none⟩) X0.length c0, .slice (some ⟨p1, q1, none⟩) X1.length c1, .slice (some ⟨p2, q2, none⟩) X2.length c2, .slice (some ⟨p3, q3, none⟩) X3.length c3] 27)) := by go_grown
  have HB := Lib.hid w8
  have HD : Hid (((w.alloc (Obj.cells #[.slice (some ⟨p0, q0, none⟩) X0.length c0, .slice (some ⟨p1, q1, none⟩) X1.length c1, .slice (some ⟨p2, q2, none⟩) X2.length c2, .slice (some ⟨p3, q3, none⟩) X3.length c3] 83)).alloc (Obj.cells #[.slice (some ⟨p0, q0, none⟩) X0.length c0, .slice (some ⟨p1, q1, none⟩) X1.length c1, .slice (some ⟨p2, q2, none⟩) X2.length c2, .slice (some ⟨p3, q3, none⟩) X3.length c3] 27)).cell? ⟨w.heap.size + 1, 0, none⟩ = some (.slice (some ⟨p0, q0, none⟩) X0.length c0) ∧ ((w.alloc (Obj.cells #[.slice (some ⟨p0, q0, none⟩) X0.length c0, .slice (some ⟨p1, q1, none⟩) X1.length c1, .slice (some ⟨p2, q2, none⟩) X2.length c2, .slice (some ⟨p3, q3, none⟩) X3.length c3] 83)).alloc (Obj.cells #[.slice (some ⟨p0, q0, none⟩) X0.length c0, .slice (some ⟨p1, q1, none⟩) X1.length c1, .slice (some ⟨p2, q2, none⟩) X2.length c2, .slice (some ⟨p3, q3, none⟩) X3.length c3] 27)).cell? ⟨w.heap.size + 1, 1, none⟩ = some (.slice (some ⟨p1, q1, none⟩) X1.length c1) ∧ ((w.alloc (Obj.cells #[.slice (some ⟨p0, q0, none⟩) X0.length c0, .slice (some ⟨p1, q1, none⟩) X1.length c1, .slice (some ⟨p2, q2, none⟩) X2.length c2, .slice (some ⟨p3, q3, none⟩) X3.length c3] 83)).alloc (Obj.cells #[.slice (some ⟨p0, q0, none⟩) X0.length c0, .slice (some ⟨p1, q1, none⟩) X1.length c1, .slice (some ⟨p2, q2, none⟩) X2.length c2, .slice (some ⟨p3, q3, none⟩) X3.length c3] 27)).cell? ⟨w.heap.size + 1, 2, none⟩ = some (.slice (some ⟨p2, q2, none⟩) X2.length c2) ∧ ((w.alloc (Obj.cells #[.slice (some ⟨p0, q0, none⟩) X0.length c0, .slice (some ⟨p1, q1, none⟩) X1.length c1, .slice (some ⟨p2, q2, none⟩) X2.length c2, .slice (some ⟨p3, q3, none⟩) X3.length c3] 83)).alloc (Obj.cells #[.slice (some ⟨p0, q0, none⟩) X0.length c0, .slice (some ⟨p1, q1, none⟩) X1.length c1, .slice (some ⟨p2, q2, none⟩) X2.length c2, .slice (some ⟨p3, q3, none⟩) X3.length c3] 27)).cell? ⟨w.heap.size + 1, 3, none⟩ = some (.slice (some ⟨p3, q3, none⟩) X3.length c3)) := Lib.hid ⟨by go_cell, by go_cell, by go_cell, by go_cell⟩
  clear h0 h1 h2 h3 o0 o1 o2 o3 w8 hl1 hl
  go_enter Try.func73, Try.ntmps73
  go_wp2_with fail
  obtain ⟨d0, d1, d2, d3⟩ := HD.out
  obtain ⟨h0, h1, h2, h3⟩ := H.out
  obtain ⟨o0, o1, o2, o3⟩ := HO.out
  refine (concat_B 4 (w.heap.size + 1) 0 4 (f4 p0 p1 p2 p3) (f4 q0 q1 q2 q3) (f4 c0 c1 c2 c3) (f4 X0 X1 X2 X3) _ (by omega) (by omega) (all4 d0 d1 d2 d3) (all4 (h0.keep HB.out) (h1.keep HB.out) (h2.keep HB.out) (h3.keep HB.out)) (all4 o0 o1 o2 o3) ?_ ?_).mono ?_
  · show 1 ≤ (((([] ++ X0) ++ X1) ++ X2) ++ X3).length
    have := HL.out.1
    simp only [List.length_append]; omega
  · show (((([] ++ X0) ++ X1) ++ X2) ++ X3).length ≤ 1000
    have := HL.out.2
    simp only [List.length_append, List.length_nil]; omega
  rw [show cat (f4 X0 X1 X2 X3) 4 = ((X0 ++ X1) ++ X2) ++ X3 from rfl]
  rintro e w9 ⟨⟨V9, rfl, hV9⟩, hb9⟩
  have HV := Lib.hid (own_weak hV9 HB.out.size)
  have hbl := HB.out.trans (hb9.mono HB.out.size)
  clear hV9 hb9 d0 d1 d2 d3 h0 h1 h2 h3 o0 o1 o2 o3 HD HB
  go_wp2_with fail
  go_returns
  exact ⟨⟨_, rfl, HV.out⟩, hbl⟩
theorem joinedB_of (p0 p1 p2 p3 q0 q1 q2 q3 c0 c1 c2 c3 l0 l1 l2 l3 : Nat) (X0 X1 X2 X3 : List Value) (w : World) (e0 : X0.length = l0) (e1 : X1.length = l1) (e2 : X2.length = l2) (e3 : X3.length = l3) (h0 : Lst w p0 q0 X0) (h1 : Lst w p1 q1 X1) (h2 : Lst w p2 q2 X2) (h3 : Lst w p3 q3 X3)
    (o0 : ∀ v ∈ X0, v.oneCell' = true) (o1 : ∀ v ∈ X1, v.oneCell' = true) (o2 : ∀ v ∈ X2, v.oneCell' = true) (o3 : ∀ v ∈ X3, v.oneCell' = true) (hl1 : 1 ≤ l0) (hl : l0 + l1 + l2 + l3 ≤ 1000) :
    Calls Try.prog 73 #[.agg #[.slice (some ⟨p0, q0, none⟩) l0 c0, .slice (some ⟨p1, q1, none⟩) l1 c1, .slice (some ⟨p2, q2, none⟩) l2 c2, .slice (some ⟨p3, q3, none⟩) l3 c3]] w fun e w' => OwnRet_B w.heap.size w' e (l0 + l1 + l2 + l3) (((X0 ++ X1) ++ X2) ++ X3) ∧ Below w.heap.size w w' := by
  subst e0 e1 e2 e3
  have h := joinedB_any p0 p1 p2 p3 q0 q1 q2 q3 c0 c1 c2 c3 X0 X1 X2 X3 w h0 h1 h2 h3 o0 o1 o2 o3 hl1 hl
  rw [show (((X0 ++ X1) ++ X2) ++ X3).length = X0.length + X1.length + X2.length + X3.length by simp only [List.length_append]] at h
  exact h
end Go.Proofs.Ytfilofnkiocbeaa
