import Derived.Test.YtfilofnkiocbeaaBj8
namespace Prm
/-- Is the element k of f a number from 0 to n - 1 that is not among those ahead of it? -/
def okAt (n : Nat) (f : Nat → Int) (k : Nat) : Bool := decide (0 ≤ f k ∧ f k < n ∧ ∀ j, j < k → f j ≠ f k)
def okUp (n : Nat) (f : Nat → Int) : Nat → Bool
  | 0 => true
  | k + 1 => okUp n f k && okAt n f k
theorem okUp_stop {n : Nat} {f : Nat → Int} {k : Nat} (h : okAt n f k = false) : ∀ m, k < m → okUp n f m = false := by
  intro m
  induction m with
  | zero => intro h; omega
  | succ m ih =>
    intro hk
    simp only [okUp]
    by_cases e : k = m
    · subst e; rw [h]; simp
    · rw [ih (by omega)]; rfl
theorem okUp_iff {n : Nat} {f : Nat → Int} {m : Nat} : okUp n f m = true ↔ ∀ k, k < m → (0 ≤ f k ∧ f k < n ∧ ∀ j, j < k → f j ≠ f k) := by
  induction m with
  | zero => simp [okUp]
  | succ m ih =>
    simp only [okUp, Bool.and_eq_true, ih, okAt, decide_eq_true_eq]
    constructor
    · rintro ⟨h1, h2⟩ k hk
      by_cases e : k = m
      · subst e; exact h2
      · exact h1 k (by omega)
    · intro h
      exact ⟨fun k hk => h k (by omega), h m (by omega)⟩
/-- Is x among the first k? -/
def usedB (f : Nat → Int) (k x : Nat) : Bool := decide (∃ j, j < k ∧ f j = x)
theorem usedB_zero (f : Nat → Int) (x : Nat) : usedB f 0 x = false := decide_eq_false (by rintro ⟨j, h, _⟩; omega)
theorem usedB_at {f : Nat → Int} {k y : Nat} (h : f k = y) : usedB f (k + 1) y = true := decide_eq_true ⟨k, by omega, h⟩
theorem usedB_ne {f : Nat → Int} {k y x : Nat} (h : f k = y) (hx : ¬ x = y) : usedB f (k + 1) x = usedB f k x := by
  unfold usedB
  rw [Bool.eq_iff_iff, decide_eq_true_eq, decide_eq_true_eq]
  constructor
  · rintro ⟨j, hj, e⟩
    by_cases ej : j = k
    · subst ej; exact absurd (by rw [h] at e; omega) hx
    · exact ⟨j, by omega, e⟩
  · rintro ⟨j, hj, e⟩; exact ⟨j, by omega, e⟩
theorem okAt_yes {n : Nat} {f : Nat → Int} {k y : Nat} (h : f k = y) (hy : y < n) (hu : usedB f k y = false) : okAt n f k = true := by
  unfold usedB at hu
  rw [decide_eq_false_iff_not] at hu
  exact decide_eq_true ⟨by omega, by omega, fun j hj e => hu ⟨j, hj, by rw [e, h]⟩⟩
theorem okAt_used {n : Nat} {f : Nat → Int} {k y : Nat} (h : f k = y) (hu : usedB f k y = true) : okAt n f k = false := by
  unfold usedB at hu
  rw [decide_eq_true_eq] at hu
  obtain ⟨j, hj, e⟩ := hu
  exact decide_eq_false fun ⟨_, _, h3⟩ => h3 j hj (by rw [e, h])
theorem okAt_out {n : Nat} {f : Nat → Int} {k : Nat} (h : ¬ (0 ≤ f k ∧ f k < n)) : okAt n f k = false := decide_eq_false fun ⟨h1, h2, _⟩ => h ⟨h1, h2⟩
/-- Which lists are permutations of a number of ports. -/
def isPm (n : Nat) (f : Nat → Int) : Bool := Ben.isP n && okUp n f n
theorem isPm_no {n : Nat} {f : Nat → Int} (h : Ben.isP n = false) : isPm n f = false := by unfold isPm; rw [h]; rfl
theorem isPm_in {n : Nat} {f : Nat → Int} (h : Ben.isP n = true) : isPm n f = okUp n f n := by unfold isPm; rw [h]; rfl
theorem okAt_low {n : Nat} {f : Nat → Int} {k : Nat} (h : f k < 0) : okAt n f k = false := decide_eq_false fun ⟨h1, _, _⟩ => by omega
theorem okAt_high {n : Nat} {f : Nat → Int} {k : Nat} (h : (n : Int) ≤ f k) : okAt n f k = false := decide_eq_false fun ⟨_, h1, _⟩ => by omega
end Prm
namespace Go.Proofs.Ytfilofnkiocbeaa
open Go.RowKit Ben Prm
/-- Block g holds n truth values of the call's own. -/
def Bow (w : World) (g n : Nat) (f : Nat → Bool) : Prop := ∀ j, j < n → w.cell? ⟨g, j, none⟩ = some (.bool (f j)) ∧ w.frozen? ⟨g, j, none⟩ = false
theorem Bow.keep {w w1 : World} {g n : Nat} {f : Nat → Bool} (h : Bow w g n f) (hb : Below w.heap.size w w1) : Bow w1 g n f := by
  intro i hi
  obtain ⟨h1, h2⟩ := h i hi
  have hB : g < w.heap.size := World.block_lt_of_cell? w _ h1
  exact ⟨((bcl hb).1 _ _ hB).trans h1, ((bcl hb).2 _ _ hB).trans h2⟩
theorem Bow.congr {w : World} {g n : Nat} {f f' : Nat → Bool} (h : Bow w g n f) (e : ∀ i, i < n → f i = f' i) : Bow w g n f' := fun i hi => by rw [← e i hi]; exact h i hi
def updB (f : Nat → Bool) (j : Nat) (z : Bool) : Nat → Bool := fun k => if k = j then z else f k
theorem Bow.store {w : World} {g n : Nat} {f : Nat → Bool} (h : Bow w g n f) {j : Nat} (hj : j < n) (x : Bool) : Bow (w.setCell ⟨g, j, none⟩ (.bool x)) g n (updB f j x) := by
  intro k hk
  obtain ⟨a0, f0⟩ := h j hj
  unfold updB
  by_cases e : k = j
  · subst e
    rw [if_pos rfl]
    exact ⟨by go_cell, by go_cell⟩
  · rw [if_neg e]
    obtain ⟨b0, g0⟩ := h k hk
    have hne : ¬ j = k := fun e' => e e'.symm
    exact ⟨by go_cell, by go_cell⟩
theorem Bow.of_made {w : World} {base : Nat} {e : TypeId} {g n cap : Nat} {xs : List Value} {f : Nat → Bool} (h : w.ownsRow base e 1 (.slice (some ⟨g, 0, none⟩) n cap) n xs) (hx : ∀ i, i < n → xs[i]? = some (.bool (f i))) : Bow w g n f := by
  intro i hi
  exact ⟨(h.cellAt i (by omega)).trans (hx i hi), h.frozenAt _⟩
theorem used_next {f : Nat → Int} {k y : Nat} (h : f k = y) : ∀ x, updB (usedB f k) y true x = usedB f (k + 1) x := by
  intro x
  unfold updB
  by_cases e : x = y
  · subst e; rw [if_pos rfl, usedB_at h]
  · rw [if_neg e, usedB_ne h e]
set_option maxRecDepth 100000 in
set_option maxHeartbeats 8000000 in
theorem isPerm_any (n cap : Nat) (ao : Option Addr) (f : Nat → Int) (w : World) (hn : n ≤ 9223372036854775807) (hc : Ints w ao n f) :
    Calls Try.prog 56 #[.slice ao n cap] w fun e w' => e = .returned (.bool (isPm n f)) ∧ Below w.heap.size w w' := by
  cases h : isP n with
  | false =>
    rw [isPm_no h]
    clear hc
    go_enter Try.func56, Try.ntmps56
    go_wp2_with fail
    refine (arePorts_any _ _).mono ?_
    rw [h]
    rintro e w' ⟨rfl, rfl⟩
    clear h
    go_wp2_with fail
    go_returns
    exact ⟨rfl, Below.refl _ _⟩
  | true =>
    rw [isPm_in h]
    have HP := Lib.hid h
    have h1 : 1 ≤ n := by rcases isP_iff.1 h with h | h | h | h <;> omega
    have h16 : n ≤ 16 := by rcases isP_iff.1 h with h | h | h | h <;> omega
    obtain ⟨i0, hi, hz0, hz1, hz2⟩ := info_parts infoBool
    have HI := Lib.hid (And.intro hi (And.intro hz0 (And.intro hz1 hz2)))
    have HC := Lib.hid hc
    clear hi hz0 hz1 hz2 h hc
    go_enter Try.func56, Try.ntmps56
    go_wp2_with fail
    refine (arePorts_any _ _).mono ?_
    rw [HP.out]
    rintro e w' ⟨rfl, rfl⟩
    go_wp2_with (refine wpList_make_full _ rfl (.tmp 11) (.tmp 11) 27 rfl w.heap.size 4 i0 _ 1 Try.underlying27 HI.out.1 HI.out.2.1 HI.out.2.2.1 .i64 .i64 _ _ n rfl rfl (by simp) (by simp) ?c1 ?c2 ?c3 ?_)
    case c1 => rw [HI.out.2.2.2]; omega
    case c2 => unfold maxLen; omega
    case c3 => exact Nat.le_refl _
    intro w1 hown hgrow
    have HW : Hid (Bow w1 w.heap.size n (usedB f 0)) := Lib.hid (Bow.of_made hown fun i hi => by rw [usedB_zero]; exact made_bool n i hi)
    have hlt1 : w.heap.size < w1.heap.size := (hown.lt _ rfl).2
    have DW : Below w.heap.size w w1 := Below.grown (Below.refl _ _) hgrow (Nat.le_refl _) (fun k hk => by cases hk)
    have HB1 := Lib.hid DW
    clear hown hgrow DW
    go_wp2_with fail
    go_loopw [15] (fun iv wr => ∃ (z : Int) (k : Nat), iv = .int .i64 z ∧ z = k ∧ k ≤ n ∧ Hid (okUp n f k = true) ∧ Hid (Bow wr w.heap.size n (usedB f k)) ∧ Hid (Below w.heap.size w wr) ∧ w.heap.size < wr.heap.size) (fun iv _ => n - (intOf iv).toNat)
    case atStart => exact ⟨0, 0, rfl, rfl, by omega, Lib.hid rfl, HW, HB1, hlt1⟩
    case round =>
      obtain ⟨z, k, rfl, hz, hk, HK, HW1, HB, hsw⟩ := hrel
      clear HW HB1 hlt1
      by_cases hlt : k < n
      · have hlt' : z < (n : Int) := by omega
        subst hz
        have k00 : (0 : Int) ≤ (k : Int) := by omega
        have wz : wrap64 ((k : Int) + 1) = (k : Int) + 1 := by simp only [wrap64]; omega
        obtain ⟨b, o, rfl, hcell⟩ := (HC.out.keep HB.out) (by omega)
        have g0 := hcell k hlt
        have hbw : b < w.heap.size := by
          obtain ⟨b', o', e', hc'⟩ := HC.out (by omega)
          have hq : b' < w.heap.size := World.block_lt_of_cell? _ _ (hc' 0 (by omega))
          have e2 : b = b' := congrArg Addr.block (Option.some.inj e')
          omega
        clear hcell
        obtain ⟨x, hx⟩ : ∃ x, f k = x := ⟨_, rfl⟩
        rw [hx] at g0
        have HX := Lib.hid hx
        clear hx
        by_cases c1 : x < 0
        · have HF : Hid (okUp n f n = false) := Lib.hid (okUp_stop (okAt_low (by rw [HX.out]; exact c1)) n hlt)
          have hbl := HB.out
          clear HW1 HB HK
          go_wp2_with fail
          go_returns
          exact ⟨by rw [HF.out] <;> rfl, hbl⟩
        by_cases c2 : (n : Int) ≤ x
        · have HF : Hid (okUp n f n = false) := Lib.hid (okUp_stop (okAt_high (by rw [HX.out]; exact c2)) n hlt)
          have hbl := HB.out
          clear HW1 HB HK
          go_wp2_with fail
          go_returns
          exact ⟨by rw [HF.out] <;> rfl, hbl⟩
        obtain ⟨y, rfl⟩ : ∃ y : Nat, x = y := ⟨x.toNat, by omega⟩
        have hyn : y < n := by omega
        have c3 : ¬ ((y : Int) < 0) := by omega
        have c4 : ¬ ((n : Int) ≤ (y : Int)) := by omega
        have c5 : (y : Int) < (n : Int) := by omega
        obtain ⟨m0, m1⟩ := HW1.out y hyn
        cases hu : usedB f k y with
        | true =>
          rw [hu] at m0
          have HF : Hid (okUp n f n = false) := Lib.hid (okUp_stop (okAt_used HX.out hu) n hlt)
          have hbl := HB.out
          clear HW1 HB HK hu
          go_wp2_with fail
          go_returns
          exact ⟨by rw [HF.out] <;> rfl, hbl⟩
        | false =>
          rw [hu] at m0
          have HK2 : Hid (okUp n f (k + 1) = true) := Lib.hid (by simp only [okUp]; rw [HK.out, okAt_yes HX.out hyn hu]; rfl)
          have HW2 : Hid (Bow (wr.setCell ⟨w.heap.size, y, none⟩ (.bool true)) w.heap.size n (usedB f (k + 1))) := Lib.hid ((HW1.out.store hyn true).congr fun j _ => used_next HX.out j)
          have HB2 : Hid (Below w.heap.size w (wr.setCell ⟨w.heap.size, y, none⟩ (.bool true))) := Lib.hid (HB.out.setCell (p := ⟨w.heap.size, y, none⟩) (Nat.le_refl _) _)
          have hs2 : w.heap.size < (wr.setCell ⟨w.heap.size, y, none⟩ (.bool true)).heap.size := World.block_lt_of_cell? _ _ (HW2.out y hyn).1
          have hbg : ¬ w.heap.size = b := by omega
          clear HW1 HB HK hu
          go_wp2_with fail
          go_roundw
          case rel => exact ⟨(k : Int) + 1, k + 1, by first | rfl | rw [wz], by clear wz; omega, by clear wz; omega, HK2, HW2, HB2, hs2⟩
          case measure => clear wz; first | (simp [intOf]; done) | (simp [intOf]; omega)
      · obtain rfl : k = n := by omega
        have hzn : ¬ z < (k : Int) := by omega
        subst hz
        have hbl := HB.out
        clear HW1 HB
        go_wp2_with fail
        go_returns
        exact ⟨by rw [HK.out] <;> rfl, hbl⟩
set_option maxRecDepth 100000 in
set_option maxHeartbeats 8000000 in
theorem rIsPerm_any (n cap : Nat) (ao : Option Addr) (f : Nat → Int) (w : World) (hn : n ≤ 9223372036854775807) (hc : Ints w ao n f) :
    Calls Try.prog 30 #[.slice ao n cap] w fun e w' => e = .returned (.bool (isPm n f)) ∧ Below w.heap.size w w' := by
  cases h : isP n with
  | false =>
    rw [isPm_no h]
    clear hc
    go_enter Try.func30, Try.ntmps30
    go_wp2_with fail
    refine (isSize_any _ _).mono ?_
    rw [h]
    rintro e w' ⟨rfl, rfl⟩
    clear h
    go_wp2_with fail
    go_returns
    exact ⟨rfl, Below.refl _ _⟩
  | true =>
    rw [isPm_in h]
    have HP := Lib.hid h
    have h1 : 1 ≤ n := by rcases isP_iff.1 h with h | h | h | h <;> omega
    have h16 : n ≤ 16 := by rcases isP_iff.1 h with h | h | h | h <;> omega
    obtain ⟨i0, hi, hz0, hz1, hz2⟩ := info_parts infoBool
    have HI := Lib.hid (And.intro hi (And.intro hz0 (And.intro hz1 hz2)))
    have HC := Lib.hid hc
    clear hi hz0 hz1 hz2 h hc
    go_enter Try.func30, Try.ntmps30
    go_wp2_with fail
    refine (isSize_any _ _).mono ?_
    rw [HP.out]
    rintro e w' ⟨rfl, rfl⟩
    go_wp2_with (refine wpList_make_full _ rfl (.tmp 10) (.tmp 10) 27 rfl w.heap.size 4 i0 _ 1 Try.underlying27 HI.out.1 HI.out.2.1 HI.out.2.2.1 .i64 .i64 _ _ n rfl rfl (by simp) (by simp) ?c1 ?c2 ?c3 ?_)
    case c1 => rw [HI.out.2.2.2]; omega
    case c2 => unfold maxLen; omega
    case c3 => exact Nat.le_refl _
    intro w1 hown hgrow
    have HW : Hid (Bow w1 w.heap.size n (usedB f 0)) := Lib.hid (Bow.of_made hown fun i hi => by rw [usedB_zero]; exact made_bool n i hi)
    have hlt1 : w.heap.size < w1.heap.size := (hown.lt _ rfl).2
    have DW : Below w.heap.size w w1 := Below.grown (Below.refl _ _) hgrow (Nat.le_refl _) (fun k hk => by cases hk)
    have HB1 := Lib.hid DW
    clear hown hgrow DW
    go_wp2_with fail
    go_loopw [4] (fun iv wr => ∃ (z : Int) (k : Nat), iv = .int .i64 z ∧ z = k ∧ k ≤ n ∧ Hid (okUp n f k = true) ∧ Hid (Bow wr w.heap.size n (usedB f k)) ∧ Hid (Below w.heap.size w wr) ∧ w.heap.size < wr.heap.size) (fun iv _ => n - (intOf iv).toNat)
    case atStart => exact ⟨0, 0, rfl, rfl, by omega, Lib.hid rfl, HW, HB1, hlt1⟩
    case round =>
      obtain ⟨z, k, rfl, hz, hk, HK, HW1, HB, hsw⟩ := hrel
      clear HW HB1 hlt1
      by_cases hlt : k < n
      · have hlt' : z < (n : Int) := by omega
        subst hz
        have k00 : (0 : Int) ≤ (k : Int) := by omega
        have wz : wrap64 ((k : Int) + 1) = (k : Int) + 1 := by simp only [wrap64]; omega
        obtain ⟨b, o, rfl, hcell⟩ := (HC.out.keep HB.out) (by omega)
        have g0 := hcell k hlt
        have hbw : b < w.heap.size := by
          obtain ⟨b', o', e', hc'⟩ := HC.out (by omega)
          have hq : b' < w.heap.size := World.block_lt_of_cell? _ _ (hc' 0 (by omega))
          have e2 : b = b' := congrArg Addr.block (Option.some.inj e')
          omega
        clear hcell
        obtain ⟨x, hx⟩ : ∃ x, f k = x := ⟨_, rfl⟩
        rw [hx] at g0
        have HX := Lib.hid hx
        clear hx
        by_cases c1 : x < 0
        · have HF : Hid (okUp n f n = false) := Lib.hid (okUp_stop (okAt_low (by rw [HX.out]; exact c1)) n hlt)
          have hbl := HB.out
          clear HW1 HB HK
          go_wp2_with fail
          go_returns
          exact ⟨by rw [HF.out] <;> rfl, hbl⟩
        by_cases c2 : (n : Int) ≤ x
        · have HF : Hid (okUp n f n = false) := Lib.hid (okUp_stop (okAt_high (by rw [HX.out]; exact c2)) n hlt)
          have hbl := HB.out
          clear HW1 HB HK
          go_wp2_with fail
          go_returns
          exact ⟨by rw [HF.out] <;> rfl, hbl⟩
        obtain ⟨y, rfl⟩ : ∃ y : Nat, x = y := ⟨x.toNat, by omega⟩
        have hyn : y < n := by omega
        have c3 : ¬ ((y : Int) < 0) := by omega
        have c4 : ¬ ((n : Int) ≤ (y : Int)) := by omega
        have c5 : (y : Int) < (n : Int) := by omega
        obtain ⟨m0, m1⟩ := HW1.out y hyn
        cases hu : usedB f k y with
        | true =>
          rw [hu] at m0
          have HF : Hid (okUp n f n = false) := Lib.hid (okUp_stop (okAt_used HX.out hu) n hlt)
          have hbl := HB.out
          clear HW1 HB HK hu
          go_wp2_with fail
          go_returns
          exact ⟨by rw [HF.out] <;> rfl, hbl⟩
        | false =>
          rw [hu] at m0
          have HK2 : Hid (okUp n f (k + 1) = true) := Lib.hid (by simp only [okUp]; rw [HK.out, okAt_yes HX.out hyn hu]; rfl)
          have HW2 : Hid (Bow (wr.setCell ⟨w.heap.size, y, none⟩ (.bool true)) w.heap.size n (usedB f (k + 1))) := Lib.hid ((HW1.out.store hyn true).congr fun j _ => used_next HX.out j)
          have HB2 : Hid (Below w.heap.size w (wr.setCell ⟨w.heap.size, y, none⟩ (.bool true))) := Lib.hid (HB.out.setCell (p := ⟨w.heap.size, y, none⟩) (Nat.le_refl _) _)
          have hs2 : w.heap.size < (wr.setCell ⟨w.heap.size, y, none⟩ (.bool true)).heap.size := World.block_lt_of_cell? _ _ (HW2.out y hyn).1
          have hbg : ¬ w.heap.size = b := by omega
          clear HW1 HB HK hu
          go_wp2_with fail
          go_roundw
          case rel => exact ⟨(k : Int) + 1, k + 1, by first | rfl | rw [wz], by clear wz; omega, by clear wz; omega, HK2, HW2, HB2, hs2⟩
          case measure => clear wz; first | (simp [intOf]; done) | (simp [intOf]; omega)
      · obtain rfl : k = n := by omega
        have hzn : ¬ z < (k : Int) := by omega
        subst hz
        have hbl := HB.out
        clear HW1 HB
        go_wp2_with fail
        go_returns
        exact ⟨by rw [HK.out] <;> rfl, hbl⟩
end Go.Proofs.Ytfilofnkiocbeaa
