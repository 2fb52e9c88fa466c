import Derived.Test.YtkcbkcgampoclaaAn9
namespace Prb
def csE (n s : Int) : Int := if isB n s = true then 0 else 2
theorem csE_no {n s : Int} (h : isB n s = false) : csE n s = 2 := by unfold csE; rw [h]; rfl
theorem csE_ok {n s : Int} (h : isB n s = true) : csE n s = 0 := by unfold csE; rw [h]; rfl
end Prb
namespace Go.Proofs.Ytkcbkcgampoclaa
open Go.RowKit Ben Prb
theorem or_bits : ∀ (c : Fin 64) (j : Fin 6), c.val < 2 ^ j.val → bits .or .i64 ((c.val : Nat) : Int) (wrap64 (2 ^ j.val)) = ((c.val + 2 ^ j.val : Nat) : Int) := by decide +kernel
theorem or_bit {c j : Nat} (hj : j < 6) (h : c < 2 ^ j) : bits .or .i64 (c : Int) (wrap64 (2 ^ j)) = ((c + 2 ^ j : Nat) : Int) := by
  have h6 : c < 64 := by
    have : 2 ^ j ≤ 2 ^ 5 := Nat.pow_le_pow_right (by omega) (by omega)
    omega
  exact or_bits ⟨c, h6⟩ ⟨j, hj⟩ h
theorem and_bits : ∀ (a : Fin 64) (j : Fin 6), (bits .and .i64 (((a.val : Nat) : Int) / 2 ^ j.val) 1 == 1) = bt a.val j.val := by decide +kernel
theorem and_bit {a j : Nat} (ha : a < 64) (hj : j < 6) : (bits .and .i64 ((a : Int) / 2 ^ j) 1 == 1) = bt a j := and_bits ⟨a, ha⟩ ⟨j, hj⟩
/-- The permutation that is made. -/
def MadeR (B : Nat) (w : World) (e : Ending) (n k a : Nat) : Prop := ∃ g cap, e = .returned (.slice (some ⟨g, 0, none⟩) n cap) ∧ Intw w g n (ouF (bt a) k) ∧ B ≤ g ∧ g < w.heap.size
def Bow (w : World) (g n : Nat) (f : Nat → Bool) : Prop := ∀ j, j < n → w.cell? ⟨g, j, none⟩ = some (.bool (f j)) ∧ w.frozen? ⟨g, j, none⟩ = false
theorem Bow.keep {w w1 : World} {g n : Nat} {f : Nat → Bool} (h : Bow w g n f) (hb : Below w.heap.size w w1) : Bow w1 g n f := by
  intro i hi
  obtain ⟨h1, h2⟩ := h i hi
  have hB : g < w.heap.size := World.block_lt_of_cell? w _ h1
  exact ⟨((bcl hb).1 _ _ hB).trans h1, ((bcl hb).2 _ _ hB).trans h2⟩
theorem Bow.congr {w : World} {g n : Nat} {f f' : Nat → Bool} (h : Bow w g n f) (e : ∀ i, i < n → f i = f' i) : Bow w g n f' := fun i hi => by rw [← e i hi]; exact h i hi
def updB (f : Nat → Bool) (j : Nat) (z : Bool) : Nat → Bool := fun k => if k = j then z else f k
theorem Bow.store {w : World} {g n : Nat} {f : Nat → Bool} (h : Bow w g n f) {j : Nat} (hj : j < n) (x : Bool) : Bow (w.setCell ⟨g, j, none⟩ (.bool x)) g n (updB f j x) := by
  intro k hk
  obtain ⟨a0, f0⟩ := h j hj
  unfold updB
  by_cases e : k = j
  · subst e
    rw [if_pos rfl]
    exact ⟨by go_cell, by go_cell⟩
  · rw [if_neg e]
    obtain ⟨b0, g0⟩ := h k hk
    have hne : ¬ j = k := fun e' => e e'.symm
    exact ⟨by go_cell, by go_cell⟩
theorem Bow.of_made {w : World} {base : Nat} {e : TypeId} {g n cap : Nat} {xs : List Value} {f : Nat → Bool} (h : w.ownsRow base e 1 (.slice (some ⟨g, 0, none⟩) n cap) n xs) (hx : ∀ i, i < n → xs[i]? = some (.bool (f i))) : Bow w g n f := by
  intro i hi
  exact ⟨(h.cellAt i (by omega)).trans (hx i hi), h.frozenAt _⟩
theorem made_bool (n i : Nat) (h : i < n) : (madeCells #[Value.bool false] n).toList[i]? = some (.bool false) := by
  have e : i % 1 = 0 := Nat.mod_one i
  simp [madeCells, h, e]
set_option maxRecDepth 100000 in
theorem infoBool : (Try.prog.info? 4).map (fun i => (i.zero, i.size, i.bytes)) = some (some (.bool false), 1, 1) := by kernel_rfl
set_option maxRecDepth 100000 in
set_option maxHeartbeats 4000000 in
theorem number_any (n cap : Nat) (ao : Option Addr) (s : Nat → Bool) (w : World) (hn : n ≤ 6) (hc : Bools w ao n s) :
    Calls Try.prog 36 #[.slice ao n cap] w fun e w' => e = .returned (.int .i64 ((ofB s n : Nat) : Int)) ∧ w = w' := by
  have HC := Lib.hid hc
  clear hc
  go_enter Try.func36, Try.ntmps36
  go_wp2_with fail
  go_loopw [3, 8] (fun cv iv wr => ∃ (c z : Int) (j : Nat), cv = .int .i64 c ∧ iv = .int .i64 z ∧ z = j ∧ j ≤ n ∧ Hid (c = ((ofB s j : Nat) : Int)) ∧ w = wr) (fun _ iv _ => n - (intOf iv).toNat)
  case atStart => exact ⟨0, 0, 0, rfl, rfl, rfl, Nat.zero_le _, Lib.hid rfl, by first | rfl | trivial⟩
  case round =>
    obtain ⟨c, z, j, rfl, rfl, hz, hj, HO, rfl⟩ := hrel
    by_cases hlt : j < n
    · obtain ⟨b, o, rfl, hcell⟩ := HC.out (by omega)
      have c0 := hcell j hlt
      have hlt' : z < (n : Int) := by omega
      cases hs : s j
      · rw [hs] at c0
        have HN : Hid (ofB s (j + 1) = ofB s j) := Lib.hid (by simp only [ofB]; rw [if_neg (by rw [hs]; exact Bool.false_ne_true), Nat.add_zero])
        have HJ := Lib.hid (And.intro hz (And.intro hj hlt))
        subst hz
        clear hj hlt hcell hs
        go_wp2_with fail
        go_roundw
        case rel => exact ⟨c, (j : Int) + 1, j + 1, rfl, by first | rfl | (rw [show wrap64 ((j : Int) + 1) = (j : Int) + 1 by have := HJ.out; simp only [wrap64]; omega]), by omega, by have := HJ.out; omega, Lib.hid (by rw [HN.out]; exact HO.out), by first | rfl | trivial⟩
        case measure => have h9 := HJ.out; first | (simp [intOf]; done) | (simp [intOf]; omega)
      · rw [hs] at c0
        have HN : Hid (ofB s (j + 1) = ofB s j + 2 ^ j) := Lib.hid (by simp only [ofB]; rw [if_pos hs])
        have HJ := Lib.hid (And.intro hz (And.intro hj hlt))
        subst hz
        clear hj hlt hcell hs
        go_wp2_with fail
        go_roundw
        case rel => exact ⟨_, (j : Int) + 1, j + 1, rfl, by first | rfl | (rw [show wrap64 ((j : Int) + 1) = (j : Int) + 1 by have := HJ.out; simp only [wrap64]; omega]), by omega, by have := HJ.out; omega, Lib.hid (by rw [HN.out, HO.out]; exact or_bit (by have := HJ.out; omega) (ofB_lt s j)), by first | rfl | trivial⟩
        case measure => have h9 := HJ.out; first | (simp [intOf]; done) | (simp [intOf]; omega)
    · obtain rfl : j = n := by omega
      have hzn : ¬ z < (j : Int) := by omega
      clear hz hj hlt
      go_wp2_with fail
      go_ret
      exact ⟨by rw [HO.out] <;> rfl, by first | rfl | trivial⟩
theorem through_2 (cap : Nat) (ao : Option Addr) (s : Nat → Bool) (w : World) (hc : Bools w ao 1 s) :
    Calls Try.prog 51 #[.int .i64 2, .slice ao 1 cap] w fun e w' => (∃ g cap', e = .returned (.tuple #[.slice (some ⟨g, 0, none⟩) 2 cap', .int .i64 0]) ∧ Intw w' g 2 (ouF s 0) ∧ w.heap.size ≤ g ∧ g < w'.heap.size) ∧ Below w.heap.size w w' :=
  pThrough_ok 0 cap ao s w (by decide) hc
set_option maxRecDepth 100000 in
set_option maxHeartbeats 4000000 in
theorem made_2 (a : Nat) (w : World) (ha : a < 2) :
    Calls Try.prog 35 #[.int .i64 2, .int .i64 (a : Int)] w fun e w' => MadeR w.heap.size w' e 2 0 a ∧ Below w.heap.size w w' := by
  obtain ⟨i0, hi, hz0, hz1, hz2⟩ := info_parts infoBool
  have HI := Lib.hid (And.intro hi (And.intro hz0 (And.intro hz1 hz2)))
  have a0 : (0 : Int) ≤ (a : Int) := by omega
  have HA := Lib.hid ha
  clear hi hz0 hz1 hz2 ha
  go_enter Try.func35, Try.ntmps35
  go_wp2_with fail
  refine (pCount_any 2 _).mono ?_
  rw [show cnV 2 = 1 from by decide, show szE 2 = 0 from by decide]
  rintro e w' ⟨rfl, rfl⟩
  go_wp2_with (refine wpList_make_full _ rfl (.tmp 16) (.tmp 16) 42 rfl w.heap.size 4 i0 _ 1 Try.underlying42 HI.out.1 HI.out.2.1 HI.out.2.2.1 .i64 .i64 _ _ 1 rfl rfl (by simp) (by simp) ?c1 ?c2 ?c3 ?_)
  case c1 => rw [HI.out.2.2.2]; omega
  case c2 => unfold maxLen; omega
  case c3 => exact Nat.le_refl _
  intro w1 hown hgrow
  have HW : Hid (Bow w1 w.heap.size 1 (fun _ => false)) := Lib.hid (Bow.of_made hown fun i hi => made_bool 1 i hi)
  have hlt1 : w.heap.size < w1.heap.size := (hown.lt _ rfl).2
  have DW : Below w.heap.size w w1 := Below.grown (Below.refl _ _) hgrow (Nat.le_refl _) (fun k hk => by cases hk)
  have HB1 := Lib.hid DW
  clear hown hgrow DW
  go_wp2_with fail
  go_loopw [20] (fun iv wr => ∃ (z : Int) (j : Nat), iv = .int .i64 z ∧ z = j ∧ j ≤ 1 ∧ Hid (Bow wr w.heap.size 1 (fun i => if i < j then bt a i else false)) ∧ Hid (Below w.heap.size w wr) ∧ w.heap.size < wr.heap.size) (fun iv _ => 1 - (intOf iv).toNat)
  case atStart => exact ⟨0, 0, rfl, rfl, Nat.zero_le _, Lib.hid (HW.out.congr fun i _ => (if_neg (by omega)).symm), HB1, hlt1⟩
  case round =>
    obtain ⟨z, j, rfl, hz, hj, HW1, HB, hs⟩ := hrel
    clear HW HB1 hlt1
    have hbl := HB.out
    by_cases hlt : j < 1
    · have hlt' : z < 1 := by omega
      have z0 : 0 ≤ z := by omega
      obtain ⟨m0, m1⟩ := HW1.out j hlt
      have HJ := Lib.hid (And.intro hz (And.intro hj hlt))
      subst hz
      have h9 : (j : Int).toNat = j := by omega
      clear hj hlt
      have HAB : Hid ((bits .and .i64 ((a : Int) / 2 ^ j) 1 == 1) = bt a j) := Lib.hid (and_bit (by have := HA.out; omega) (by have := HJ.out; omega))
      go_wp2_with fail
      rw [HAB.out]
      have HW2 : Hid (Bow (wr.setCell ⟨w.heap.size, j, none⟩ (.bool (bt a j))) w.heap.size 1 (fun i => if i < j + 1 then bt a i else false)) := Lib.hid ((HW1.out.store HJ.out.2.2 (bt a j)).congr fun i hi => by
        unfold updB
        by_cases e : i = j
        · rw [if_pos e, if_pos (by omega), e]
        · rw [if_neg e]
          dsimp only
          by_cases h : i < j
          · rw [if_pos h, if_pos (by omega)]
          · rw [if_neg h, if_neg (by omega)])
      have HB2 : Hid (Below w.heap.size w (wr.setCell ⟨w.heap.size, j, none⟩ (.bool (bt a j)))) := Lib.hid (by go_grown)
      clear HW1 HB
      go_roundw
      case rel => exact ⟨(j : Int) + 1, j + 1, by first | rfl | (rw [show wrap64 ((j : Int) + 1) = (j : Int) + 1 by have := HJ.out; simp only [wrap64]; omega]), by omega, by have := HJ.out; omega, HW2, HB2, by first | exact hs | (simp; exact hs) | (simp; omega)⟩
      case measure => have h9 := HJ.out; first | (simp [intOf]; done) | (simp [intOf]; omega)
    · obtain rfl : j = 1 := by omega
      have hzn : ¬ z < 1 := by omega
      clear hz hj hlt
      go_wp2_with fail
      refine (through_2 _ _ (bt a) _ (fun _ => ⟨w.heap.size, 0, rfl, fun i hi => by rw [Nat.zero_add]; exact ((HW1.out.congr (f' := bt a) fun i hi => if_pos hi) i hi).1⟩)).mono ?_
      rintro e w2 ⟨⟨g, cap', rfl, hW, hg1, hg2⟩, hb⟩
      have HR := Lib.hid (And.intro hW (And.intro (Nat.le_trans HB.out.size hg1) hg2))
      have HB2 := Lib.hid (HB.out.trans (hb.mono HB.out.size))
      clear hW hg1 hg2 hb hbl HB HW1 hs
      go_wp2_with fail
      go_ret
      exact ⟨⟨g, cap', rfl, HR.out.1, HR.out.2.1, HR.out.2.2⟩, HB2.out⟩
set_option maxRecDepth 100000 in
set_option maxHeartbeats 4000000 in
theorem pCheck_2 (s : Int) (b cap : Nat) (w : World) (hc : w.cell? ⟨b, 0, none⟩ = some (.int .i64 s)) :
    Calls Try.prog 33 #[.int .i64 2, .slice (some ⟨b, 0, none⟩) 1 cap] w fun e w' => e = .returned (.int .i64 (csE 2 s)) ∧ w = w' := by
  have hst : stV 2 = 2 := by decide
  have HC := Lib.hid hc
  clear hc
  go_enter Try.func33, Try.ntmps33
  go_wp2_with fail
  refine (pStates_2 _).mono ?_
  rintro e w' ⟨rfl, rfl⟩
  go_wp2_with fail
  go_loopw [7, 20] (fun lv iv wr => ∃ (l z : Int), lv = .int .i64 l ∧ iv = .int .i64 z ∧ ((z = 0 ∧ l = 0) ∨ (z = 1 ∧ isB 2 s = true)) ∧ w = wr) (fun _ iv _ => 1 - (intOf iv).toNat)
  case atStart => exact ⟨0, 0, rfl, rfl, Or.inl ⟨rfl, rfl⟩, by first | rfl | trivial⟩
  case round =>
    obtain ⟨l, z, rfl, rfl, hh, rfl⟩ := hrel
    rcases hh with ⟨rfl, rfl⟩ | ⟨rfl, hi⟩
    · have c0 := HC.out
      by_cases h1 : s < 0
      · have HE := Lib.hid (csE_no (n := 2) (s := s) (decide_eq_false fun g => by have := g.1; omega))
        go_wp2_with fail
        go_ret
        exact ⟨by rw [HE.out] <;> rfl, rfl⟩
      by_cases h2 : 2 ≤ s
      · have HE := Lib.hid (csE_no (n := 2) (s := s) (decide_eq_false fun g => by have := g.2; rw [hst] at this; omega))
        have h3 : ¬ s < 2 := by omega
        go_wp2_with fail
        go_ret
        exact ⟨by rw [HE.out] <;> rfl, rfl⟩
      have HE := Lib.hid (show isB 2 s = true from decide_eq_true ⟨by omega, by rw [hst]; omega⟩)
      have ws : wrap64 (s + 1) = s + 1 := by simp only [wrap64]; omega
      clear hst
      go_wp2_with fail
      go_roundw
      case rel => exact ⟨s + 1, 1, rfl, rfl, Or.inr ⟨rfl, HE.out⟩, by first | rfl | trivial⟩
      case measure => first | (simp [intOf]; done) | (simp [intOf]; omega)
    · have HE := Lib.hid (csE_ok hi)
      clear hi hst
      go_wp2_with fail
      go_ret
      exact ⟨by rw [HE.out] <;> rfl, rfl⟩
theorem through_4 (cap : Nat) (ao : Option Addr) (s : Nat → Bool) (w : World) (hc : Bools w ao 6 s) :
    Calls Try.prog 51 #[.int .i64 4, .slice ao 6 cap] w fun e w' => (∃ g cap', e = .returned (.tuple #[.slice (some ⟨g, 0, none⟩) 4 cap', .int .i64 0]) ∧ Intw w' g 4 (ouF s 1) ∧ w.heap.size ≤ g ∧ g < w'.heap.size) ∧ Below w.heap.size w w' :=
  pThrough_ok 1 cap ao s w (by decide) hc
set_option maxRecDepth 100000 in
set_option maxHeartbeats 4000000 in
theorem made_4 (a : Nat) (w : World) (ha : a < 64) :
    Calls Try.prog 35 #[.int .i64 4, .int .i64 (a : Int)] w fun e w' => MadeR w.heap.size w' e 4 1 a ∧ Below w.heap.size w w' := by
  obtain ⟨i0, hi, hz0, hz1, hz2⟩ := info_parts infoBool
  have HI := Lib.hid (And.intro hi (And.intro hz0 (And.intro hz1 hz2)))
  have a0 : (0 : Int) ≤ (a : Int) := by omega
  have HA := Lib.hid ha
  clear hi hz0 hz1 hz2 ha
  go_enter Try.func35, Try.ntmps35
  go_wp2_with fail
  refine (pCount_any 4 _).mono ?_
  rw [show cnV 4 = 6 from by decide, show szE 4 = 0 from by decide]
  rintro e w' ⟨rfl, rfl⟩
  go_wp2_with (refine wpList_make_full _ rfl (.tmp 16) (.tmp 16) 42 rfl w.heap.size 4 i0 _ 1 Try.underlying42 HI.out.1 HI.out.2.1 HI.out.2.2.1 .i64 .i64 _ _ 6 rfl rfl (by simp) (by simp) ?c1 ?c2 ?c3 ?_)
  case c1 => rw [HI.out.2.2.2]; omega
  case c2 => unfold maxLen; omega
  case c3 => exact Nat.le_refl _
  intro w1 hown hgrow
  have HW : Hid (Bow w1 w.heap.size 6 (fun _ => false)) := Lib.hid (Bow.of_made hown fun i hi => made_bool 6 i hi)
  have hlt1 : w.heap.size < w1.heap.size := (hown.lt _ rfl).2
  have DW : Below w.heap.size w w1 := Below.grown (Below.refl _ _) hgrow (Nat.le_refl _) (fun k hk => by cases hk)
  have HB1 := Lib.hid DW
  clear hown hgrow DW
  go_wp2_with fail
  go_loopw [20] (fun iv wr => ∃ (z : Int) (j : Nat), iv = .int .i64 z ∧ z = j ∧ j ≤ 6 ∧ Hid (Bow wr w.heap.size 6 (fun i => if i < j then bt a i else false)) ∧ Hid (Below w.heap.size w wr) ∧ w.heap.size < wr.heap.size) (fun iv _ => 6 - (intOf iv).toNat)
  case atStart => exact ⟨0, 0, rfl, rfl, Nat.zero_le _, Lib.hid (HW.out.congr fun i _ => (if_neg (by omega)).symm), HB1, hlt1⟩
  case round =>
    obtain ⟨z, j, rfl, hz, hj, HW1, HB, hs⟩ := hrel
    clear HW HB1 hlt1
    have hbl := HB.out
    by_cases hlt : j < 6
    · have hlt' : z < 6 := by omega
      have z0 : 0 ≤ z := by omega
      obtain ⟨m0, m1⟩ := HW1.out j hlt
      have HJ := Lib.hid (And.intro hz (And.intro hj hlt))
      subst hz
      have h9 : (j : Int).toNat = j := by omega
      clear hj hlt
      have HAB : Hid ((bits .and .i64 ((a : Int) / 2 ^ j) 1 == 1) = bt a j) := Lib.hid (and_bit (by have := HA.out; omega) (by have := HJ.out; omega))
      go_wp2_with fail
      rw [HAB.out]
      have HW2 : Hid (Bow (wr.setCell ⟨w.heap.size, j, none⟩ (.bool (bt a j))) w.heap.size 6 (fun i => if i < j + 1 then bt a i else false)) := Lib.hid ((HW1.out.store HJ.out.2.2 (bt a j)).congr fun i hi => by
        unfold updB
        by_cases e : i = j
        · rw [if_pos e, if_pos (by omega), e]
        · rw [if_neg e]
          dsimp only
          by_cases h : i < j
          · rw [if_pos h, if_pos (by omega)]
          · rw [if_neg h, if_neg (by omega)])
      have HB2 : Hid (Below w.heap.size w (wr.setCell ⟨w.heap.size, j, none⟩ (.bool (bt a j)))) := Lib.hid (by go_grown)
      clear HW1 HB
      go_roundw
      case rel => exact ⟨(j : Int) + 1, j + 1, by first | rfl | (rw [show wrap64 ((j : Int) + 1) = (j : Int) + 1 by have := HJ.out; simp only [wrap64]; omega]), by omega, by have := HJ.out; omega, HW2, HB2, by first | exact hs | (simp; exact hs) | (simp; omega)⟩
      case measure => have h9 := HJ.out; first | (simp [intOf]; done) | (simp [intOf]; omega)
    · obtain rfl : j = 6 := by omega
      have hzn : ¬ z < 6 := by omega
      clear hz hj hlt
      go_wp2_with fail
      refine (through_4 _ _ (bt a) _ (fun _ => ⟨w.heap.size, 0, rfl, fun i hi => by rw [Nat.zero_add]; exact ((HW1.out.congr (f' := bt a) fun i hi => if_pos hi) i hi).1⟩)).mono ?_
      rintro e w2 ⟨⟨g, cap', rfl, hW, hg1, hg2⟩, hb⟩
      have HR := Lib.hid (And.intro hW (And.intro (Nat.le_trans HB.out.size hg1) hg2))
      have HB2 := Lib.hid (HB.out.trans (hb.mono HB.out.size))
      clear hW hg1 hg2 hb hbl HB HW1 hs
      go_wp2_with fail
      go_ret
      exact ⟨⟨g, cap', rfl, HR.out.1, HR.out.2.1, HR.out.2.2⟩, HB2.out⟩
set_option maxRecDepth 100000 in
set_option maxHeartbeats 4000000 in
theorem pCheck_4 (s : Int) (b cap : Nat) (w : World) (hc : w.cell? ⟨b, 0, none⟩ = some (.int .i64 s)) :
    Calls Try.prog 33 #[.int .i64 4, .slice (some ⟨b, 0, none⟩) 1 cap] w fun e w' => e = .returned (.int .i64 (csE 4 s)) ∧ w = w' := by
  have hst : stV 4 = 64 := by decide
  have HC := Lib.hid hc
  clear hc
  go_enter Try.func33, Try.ntmps33
  go_wp2_with fail
  refine (pStates_4 _).mono ?_
  rintro e w' ⟨rfl, rfl⟩
  go_wp2_with fail
  go_loopw [7, 20] (fun lv iv wr => ∃ (l z : Int), lv = .int .i64 l ∧ iv = .int .i64 z ∧ ((z = 0 ∧ l = 0) ∨ (z = 1 ∧ isB 4 s = true)) ∧ w = wr) (fun _ iv _ => 1 - (intOf iv).toNat)
  case atStart => exact ⟨0, 0, rfl, rfl, Or.inl ⟨rfl, rfl⟩, by first | rfl | trivial⟩
  case round =>
    obtain ⟨l, z, rfl, rfl, hh, rfl⟩ := hrel
    rcases hh with ⟨rfl, rfl⟩ | ⟨rfl, hi⟩
    · have c0 := HC.out
      by_cases h1 : s < 0
      · have HE := Lib.hid (csE_no (n := 4) (s := s) (decide_eq_false fun g => by have := g.1; omega))
        go_wp2_with fail
        go_ret
        exact ⟨by rw [HE.out] <;> rfl, rfl⟩
      by_cases h2 : 64 ≤ s
      · have HE := Lib.hid (csE_no (n := 4) (s := s) (decide_eq_false fun g => by have := g.2; rw [hst] at this; omega))
        have h3 : ¬ s < 64 := by omega
        go_wp2_with fail
        go_ret
        exact ⟨by rw [HE.out] <;> rfl, rfl⟩
      have HE := Lib.hid (show isB 4 s = true from decide_eq_true ⟨by omega, by rw [hst]; omega⟩)
      have ws : wrap64 (s + 1) = s + 1 := by simp only [wrap64]; omega
      clear hst
      go_wp2_with fail
      go_roundw
      case rel => exact ⟨s + 1, 1, rfl, rfl, Or.inr ⟨rfl, HE.out⟩, by first | rfl | trivial⟩
      case measure => first | (simp [intOf]; done) | (simp [intOf]; omega)
    · have HE := Lib.hid (csE_ok hi)
      clear hi hst
      go_wp2_with fail
      go_ret
      exact ⟨by rw [HE.out] <;> rfl, rfl⟩
end Go.Proofs.Ytkcbkcgampoclaa
