import Derived.Test.YtdhlikedjephmaaSo6
namespace Go.Proofs.Ytdhlikedjephmaa
open Go.RowKit Heat
set_option maxRecDepth 100000 in
set_option maxHeartbeats 4000000 in
/-- Two lists of the same ratios are the same. -/
theorem sameRatios_yes (n cap dap : Nat) (ao bo : Option Addr) (P Q : Nat → Int) (w : World) (hn : n ≤ 9223372036854775807) (hc : Rats w ao n P Q) (hd : Rats w bo n P Q) :
    Calls Try.prog 43 #[.slice ao n cap, .slice bo n dap] w fun e w' => e = .returned (.bool true) ∧ Below w.heap.size w w' := by
  have HC := Lib.hid hc
  have HD := Lib.hid hd
  have hnn : ((n : Int) != (n : Int)) = false := by simp
  clear hc hd
  go_enter Try.func43, Try.ntmps43
  go_wp2_with fail
  go_loopw [5] (fun iv wr => ∃ (z : Int) (i : Nat), iv = .int .i64 z ∧ z = i ∧ i ≤ n ∧ Hid (Below w.heap.size w wr)) (fun iv _ => n - (intOf iv).toNat)
  case atStart => exact ⟨0, 0, rfl, by omega, by omega, Lib.hid (Below.refl _ _)⟩
  case round =>
    obtain ⟨z, i, rfl, hz, hi, HB⟩ := hrel
    by_cases hlt : i < n
    · have hlt' : z < (n : Int) := by omega
      subst hz
      have i00 : (0 : Int) ≤ (i : Int) := by omega
      have wz : wrap64 ((i : Int) + 1) = (i : Int) + 1 := by simp only [wrap64]; omega
      obtain ⟨b, o, rfl, hc1⟩ := (HC.out.keep HB.out) (by omega)
      obtain ⟨b', o', rfl, hc2⟩ := (HD.out.keep HB.out) (by omega)
      obtain ⟨g0, g1⟩ := hc1 i hlt
      obtain ⟨g2, g3⟩ := hc2 i hlt
      obtain ⟨p, hp⟩ : ∃ p, P i = p := ⟨_, rfl⟩
      obtain ⟨q, hq⟩ : ∃ q, Q i = q := ⟨_, rfl⟩
      rw [hp] at g0 g2
      rw [hq] at g1 g3
      have HBd : Hid (Below w.heap.size w wr.drew) := Lib.hid HB.out.drew
      clear hc1 hc2 hp hq HB
      go_upto_region 6 with fail
      go_region
      clear g0 g1 g2 g3
      generalize wr.drew = wv at *
      go_wp2_with fail
      go_roundw
      case rel => exact ⟨(i : Int) + 1, i + 1, by first | rfl | rw [wz], by omega, by omega, HBd⟩
      case measure => first | (simp [intOf]; done) | (simp [intOf]; omega)
    · obtain rfl : i = n := by omega
      subst hz
      have hbl := HB.out
      go_wp2_with fail
      refine bodyPost_ret (v := .bool true) (by simp [results, Try.results43, go_sem]) rfl ⟨rfl, hbl⟩
theorem grown_set (w : World) (b n : Nat) (u : Value) : w.grownBy (w.setCell ⟨b, n, none⟩ u) (some b) := ⟨rfl, rfl, rfl, by simp, fun k _ hk => heap_setCell_other w ⟨b, n, none⟩ k u (fun e => hk (by simp [e]))⟩
/-- A matrix of ratios that the call fills column by column: V j is its row j; the first i rows have one more than k. -/
def InvS (w : World) (go N k i : Nat) (V : Nat → Value) (P Q : Nat → Nat → Int) : Prop :=
  ∀ j, j < N → (w.cell? ⟨go, j, none⟩ = some (V j) ∧ w.frozen? ⟨go, j, none⟩ = false) ∧ w.ownsRow (go + 1) 68 2 (V j) (if j < i then k + 1 else k) (ratC (P j) (Q j) (if j < i then k + 1 else k)) ∧
    ∀ j', j' < N → ¬ j' = j → (V j).ownBlock = none ∨ (V j).ownBlock ≠ (V j').ownBlock
theorem InvS.keep {w w1 : World} {go N k i : Nat} {V : Nat → Value} {P Q : Nat → Nat → Int} (h : InvS w go N k i V P Q) (hb : Below w.heap.size w w1) : InvS w1 go N k i V P Q := fun j hj => by
  obtain ⟨⟨a, a'⟩, b, c⟩ := h j hj
  have hl := World.block_lt_of_cell? _ _ a
  exact ⟨⟨(hb.cell (p := ⟨go, j, none⟩) hl).trans a, (hb.frozen (p := ⟨go, j, none⟩) hl).trans a'⟩, own_below' b hb, c⟩
theorem InvS.turn {w : World} {go N k : Nat} {V : Nat → Value} {P Q : Nat → Nat → Int} (h : InvS w go N k N V P Q) : InvS w go N (k + 1) 0 V P Q := fun j hj => by
  obtain ⟨a, b, c⟩ := h j hj
  rw [if_pos hj] at b
  rw [if_neg (by omega)]
  exact ⟨a, b, c⟩
def updV (V : Nat → Value) (i : Nat) (v : Value) : Nat → Value := fun j => if j = i then v else V j
/-- One more ratio at the end of row i: an append, and its store back. -/
theorem InvS.next {w w1 : World} {go N k i g' cap' : Nat} {V : Nat → Value} {P Q : Nat → Nat → Int} (h : InvS w go N k i V P Q) (hi : i < N) (hgo : go < w.heap.size)
    (hown : w1.ownsRow (go + 1) 68 2 (.slice (some ⟨g', 0, none⟩) (k + 1) cap') (k + 1) (ratC (P i) (Q i) k ++ [.int .i64 (P i k), .int .i64 (Q i k)])) (hgr : w.grownBy w1 (V i).ownBlock) (hor : (V i).ownBlock = some g' ∨ w.heap.size ≤ g') :
    InvS (w1.setCell ⟨go, i, none⟩ (.slice (some ⟨g', 0, none⟩) (k + 1) cap')) go N k (i + 1) (updV V i (.slice (some ⟨g', 0, none⟩) (k + 1) cap')) P Q := by
  have hold : ∀ j, j < N → ∀ q, (V j).ownBlock = some q → go + 1 ≤ q ∧ q < w.heap.size := fun j hj => (h j hj).2.1.lt
  have hgog : ¬ g' = go := by
    rcases hor with e | e
    · have := (hold i hi _ e).1; omega
    · omega
  have hngo : ∀ j, j < N → (V j).ownBlock ≠ some go := fun j hj e => by have := (hold j hj _ e).1; omega
  intro j hj
  obtain ⟨⟨a, a'⟩, b, c⟩ := h j hj
  have ha : w1.cell? ⟨go, j, none⟩ = some (V j) := farc hgr a (fun e => hngo i hi e.symm)
  have ha' : w1.frozen? ⟨go, j, none⟩ = false := farf hgr a a' (fun e => hngo i hi e.symm)
  obtain ⟨m0, m1⟩ : w1.cell? ⟨go, i, none⟩ = some (V i) ∧ w1.frozen? ⟨go, i, none⟩ = false := by
    obtain ⟨⟨x, x'⟩, _⟩ := h i hi
    exact ⟨farc hgr x (fun e => hngo i hi e.symm), farf hgr x x' (fun e => hngo i hi e.symm)⟩
  unfold updV
  by_cases e : j = i
  · subst e
    rw [if_pos rfl, if_pos (by omega)]
    refine ⟨⟨by go_cell, by go_cell⟩, ?_, fun j' hj' hne => ?_⟩
    · have := hown.kept (grown_set w1 go j (.slice (some ⟨g', 0, none⟩) (k + 1) cap')) (.inr (by simp only [Value.ownBlock]; exact fun e => hgog (Option.some.inj e)))
      unfold ratC
      exact this
    · rw [if_neg hne]
      right
      intro e2
      simp only [Value.ownBlock] at e2
      have hq := hold j' hj' g' e2.symm
      rcases hor with e3 | e3
      · rcases c j' hj' hne with e4 | e4
        · rw [e4] at e3; simp at e3
        · exact e4 (e3.trans e2)
      · omega
  · have hne : ¬ i = j := fun x => e x.symm
    rw [if_neg e]
    have hif : (if j < i + 1 then k + 1 else k) = if j < i then k + 1 else k := by
      by_cases e2 : j < i
      · rw [if_pos e2, if_pos (by omega)]
      · rw [if_neg e2, if_neg (by omega)]
    rw [hif]
    refine ⟨⟨by go_cell, by go_cell⟩, ?_, fun j' hj' hne' => ?_⟩
    · have h1 := b.kept hgr (c i hi hne)
      exact h1.kept (grown_set w1 go i (.slice (some ⟨g', 0, none⟩) (k + 1) cap')) (by
        cases hv : (V j).ownBlock with
        | none => exact .inl rfl
        | some q => exact .inr (fun e2 => hngo j hj (by rw [hv, e2])))
    · by_cases e3 : j' = i
      · rw [if_pos e3]
        cases hv : (V j).ownBlock with
        | none => exact .inl rfl
        | some q =>
          right
          intro e4
          simp only [Value.ownBlock, Option.some.injEq] at e4
          subst e4
          rcases hor with e5 | e5
          · rcases c i hi hne with e6 | e6
            · rw [hv] at e6; simp at e6
            · exact e6 (hv.trans e5.symm)
          · have := (hold j hj _ hv).2; omega
      · rw [if_neg e3]
        exact c j' hj' hne'
end Go.Proofs.Ytdhlikedjephmaa
