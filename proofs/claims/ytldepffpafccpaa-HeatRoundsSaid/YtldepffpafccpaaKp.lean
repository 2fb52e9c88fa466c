import Derived.Test.YtldepffpafccpaaKn
namespace Heat
def ratB (n d : Int) : Bool := decide (1 ≤ d ∧ d ≤ 1000000000000000000 ∧ -1000000000000000000 ≤ n ∧ n ≤ 1000000000000000000)
def ratIn (P Q : Nat → Int) : Nat → Bool
  | 0 => true
  | k + 1 => ratIn P Q k && ratB (P k) (Q k)
theorem ratIn_stop {P Q : Nat → Int} {k : Nat} (h : ratB (P k) (Q k) = false) : ∀ m, k < m → ratIn P Q m = false := by
  intro m
  induction m with
  | zero => intro hk; omega
  | succ n ih =>
    intro hk
    show (ratIn P Q n && ratB (P n) (Q n)) = false
    by_cases e : k = n
    · subst e; rw [h, Bool.and_false]
    · rw [ih (by omega), Bool.false_and]
theorem ratIn_next {P Q : Nat → Int} {k : Nat} (h : ratIn P Q k = true) (h1 : ratB (P k) (Q k) = true) : ratIn P Q (k + 1) = true := by
  show (ratIn P Q k && ratB (P k) (Q k)) = true
  rw [h, h1]; rfl
theorem ratIn_at {P Q : Nat → Int} {n : Nat} (h : ratIn P Q n = true) : ∀ k, k < n → 1 ≤ Q k ∧ Q k ≤ 1000000000000000000 ∧ -1000000000000000000 ≤ P k ∧ P k ≤ 1000000000000000000 := by
  induction n with
  | zero => intro k hk; omega
  | succ n ih =>
    intro k hk
    have h' : (ratIn P Q n && ratB (P n) (Q n)) = true := h
    rw [Bool.and_eq_true] at h'
    by_cases e : k = n
    · subst e; exact of_decide_eq_true h'.2
    · exact ih h'.1 k (by omega)
theorem ratB_no {n d : Int} (h : d < 1 ∨ 1000000000000000000 < d ∨ n < -1000000000000000000 ∨ 1000000000000000000 < n) : ratB n d = false := decide_eq_false (by omega)
theorem ratB_yes {n d : Int} (h1 : ¬ d < 1) (h2 : ¬ 1000000000000000000 < d) (h3 : ¬ n < -1000000000000000000) (h4 : ¬ 1000000000000000000 < n) : ratB n d = true := decide_eq_true (by omega)
def nrL (P Q : Nat → Int) (i : Nat) : Int := nrS (P i) (Q i)
def roundE (n : Nat) (P Q : Nat → Int) : Int := if (decide (1 ≤ n ∧ n ≤ 5) && ratIn P Q n) = true then (if inTo (nrL P Q) 0 1000 n = true then 0 else 62) else 2
theorem roundE_size {n : Nat} {P Q : Nat → Int} (h : ¬ (1 ≤ n ∧ n ≤ 5)) : roundE n P Q = 2 := by unfold roundE; rw [decide_eq_false h]; rfl
theorem roundE_bad {n : Nat} {P Q : Nat → Int} (_ : 1 ≤ n ∧ n ≤ 5) (h : ratIn P Q n = false) : roundE n P Q = 2 := by unfold roundE; rw [h, Bool.and_false]; rfl
theorem roundE_ok {n : Nat} {P Q : Nat → Int} (h : 1 ≤ n ∧ n ≤ 5) (h1 : ratIn P Q n = true) : roundE n P Q = if inTo (nrL P Q) 0 1000 n = true then 0 else 62 := by unfold roundE; rw [decide_eq_true h, h1]; rfl
end Heat
namespace Go.Proofs.Ytldepffpafccpaa
open Go.RowKit Heat
/-- What comes back of Round. -/
def RoundR (w : World) (e : Ending) (n : Nat) (P Q : Nat → Int) : Prop := ∃ ao cap, e = .returned (.tuple #[.slice ao (if roundE n P Q = 0 then n else 0) cap, .int .i64 (roundE n P Q)]) ∧ Ints w ao (if roundE n P Q = 0 then n else 0) (nrL P Q)
theorem roundR_no {w : World} {n : Nat} {P Q : Nat → Int} {x : Int} (h : roundE n P Q = x) (h0 : x ≠ 0) : RoundR w (.returned (.tuple #[.slice none 0 0, .int .i64 x])) n P Q := by
  unfold RoundR
  rw [h, if_neg h0]
  exact ⟨none, 0, rfl, fun h => absurd h (by omega)⟩
theorem roundR_ok {w : World} {n g cap : Nat} {P Q : Nat → Int} (h : roundE n P Q = 0) (hw : Intw w g n (nrL P Q)) : RoundR w (.returned (.tuple #[.slice (some ⟨g, 0, none⟩) n cap, .int .i64 0])) n P Q := by
  unfold RoundR
  rw [h, if_pos rfl]
  exact ⟨_, cap, rfl, hw.ints⟩
set_option maxRecDepth 100000 in
set_option maxHeartbeats 8000000 in
theorem hRound_any (n cap : Nat) (ao : Option Addr) (P Q : Nat → Int) (w : World) (hn : n ≤ 9223372036854775807) (hc : Rats w ao n P Q) :
    Calls Try.prog 15 #[.slice ao n cap] w fun e w' => RoundR w' e n P Q ∧ Below w.heap.size w w' := by
  have HC := Lib.hid hc
  clear hc
  by_cases h1 : (n : Int) < 1
  · have HE : Hid (roundE n P Q = 2) := Lib.hid (roundE_size (by omega))
    go_enter Try.func15, Try.ntmps15
    go_wp2_with fail
    refine bodyPost_ret (v := .tuple #[.slice none 0 0, .int .i64 2]) (by simp [results, Try.results15, go_sem]) rfl ⟨roundR_no HE.out (by decide), by go_grown⟩
  by_cases h2 : 5 < (n : Int)
  · have HE : Hid (roundE n P Q = 2) := Lib.hid (roundE_size (by omega))
    go_enter Try.func15, Try.ntmps15
    go_wp2_with fail
    refine bodyPost_ret (v := .tuple #[.slice none 0 0, .int .i64 2]) (by simp [results, Try.results15, go_sem]) rfl ⟨roundR_no HE.out (by decide), by go_grown⟩
  have HLE : Hid (1 ≤ n ∧ n ≤ 5) := Lib.hid (by omega)
  obtain ⟨i0, hi, hz0, hz1, hz2⟩ := info_parts infoInt
  have HI := Lib.hid (And.intro hi (And.intro hz0 (And.intro hz1 hz2)))
  clear hi hz0 hz1 hz2
  go_enter Try.func15, Try.ntmps15
  go_wp2_with fail
  go_loopw [19] (fun iv wr => ∃ (z : Int) (k : Nat), iv = .int .i64 z ∧ z = k ∧ k ≤ n ∧ Hid (ratIn P Q k = true) ∧ Hid (Below w.heap.size w wr)) (fun iv _ => n - (intOf iv).toNat)
  case atStart => exact ⟨0, 0, rfl, by omega, by omega, Lib.hid rfl, Lib.hid (by go_grown)⟩
  case round =>
    obtain ⟨z, k, rfl, hz, hk, HS, HB⟩ := hrel
    by_cases hlt : k < n
    · have hlt' : z < (n : Int) := by omega
      subst hz
      have k0 : (0 : Int) ≤ (k : Int) := by omega
      have wz : wrap64 ((k : Int) + 1) = (k : Int) + 1 := by simp only [wrap64]; omega
      obtain ⟨b, o, rfl, hcell⟩ := (HC.out.keep HB.out) (by omega)
      obtain ⟨g0, g1⟩ := hcell k hlt
      have hbl := HB.out
      have hblz := hbl.size
      have hbz := World.block_lt_of_cell? _ _ g0
      clear hcell
      obtain ⟨x, hx⟩ : ∃ x, P k = x := ⟨_, rfl⟩
      obtain ⟨y, hy⟩ : ∃ y, Q k = y := ⟨_, rfl⟩
      have HX := Lib.hid hx
      have HY := Lib.hid hy
      rw [hx] at g0
      rw [hy] at g1
      clear hx hy
      by_cases c1 : y < 1
      · have HE : Hid (roundE n P Q = 2) := Lib.hid (roundE_bad HLE.out (ratIn_stop (k := k) (by rw [HX.out, HY.out]; exact ratB_no (.inl c1)) n hlt))
        clear HB HS
        go_wp2_with fail
        refine bodyPost_ret (v := .tuple #[.slice none 0 0, .int .i64 2]) (by simp [results, Try.results15, go_sem]) rfl ⟨roundR_no HE.out (by decide), by go_grown⟩
      by_cases c2 : 1000000000000000000 < y
      · have HE : Hid (roundE n P Q = 2) := Lib.hid (roundE_bad HLE.out (ratIn_stop (k := k) (by rw [HX.out, HY.out]; exact ratB_no (.inr (.inl c2))) n hlt))
        clear HB HS
        go_wp2_with fail
        refine bodyPost_ret (v := .tuple #[.slice none 0 0, .int .i64 2]) (by simp [results, Try.results15, go_sem]) rfl ⟨roundR_no HE.out (by decide), by go_grown⟩
      by_cases c3 : x < -1000000000000000000
      · have HE : Hid (roundE n P Q = 2) := Lib.hid (roundE_bad HLE.out (ratIn_stop (k := k) (by rw [HX.out, HY.out]; exact ratB_no (.inr (.inr (.inl c3)))) n hlt))
        clear HB HS
        go_wp2_with fail
        refine bodyPost_ret (v := .tuple #[.slice none 0 0, .int .i64 2]) (by simp [results, Try.results15, go_sem]) rfl ⟨roundR_no HE.out (by decide), by go_grown⟩
      by_cases c4 : 1000000000000000000 < x
      · have HE : Hid (roundE n P Q = 2) := Lib.hid (roundE_bad HLE.out (ratIn_stop (k := k) (by rw [HX.out, HY.out]; exact ratB_no (.inr (.inr (.inr c4)))) n hlt))
        clear HB HS
        go_wp2_with fail
        refine bodyPost_ret (v := .tuple #[.slice none 0 0, .int .i64 2]) (by simp [results, Try.results15, go_sem]) rfl ⟨roundR_no HE.out (by decide), by go_grown⟩
      have HF : Hid (ratIn P Q (k + 1) = true) := Lib.hid (ratIn_next HS.out (by rw [HX.out, HY.out]; exact ratB_yes c1 c2 c3 c4))
      clear HS HB
      go_wp2_with fail
      go_roundw
      case rel => exact ⟨(k : Int) + 1, k + 1, by first | rfl | rw [wz], by omega, by omega, HF, Lib.hid (by go_grown)⟩
      case measure => first | (simp [intOf]; done) | (simp [intOf]; omega)
    · obtain rfl : k = n := by omega
      have HRT := Lib.hid (ratIn_at HS.out)
      have HRE : Hid (roundE k P Q = if inTo (nrL P Q) 0 1000 k = true then 0 else 62) := Lib.hid (roundE_ok HLE.out HS.out)
      have hbl := HB.out
      have hsz := hbl.size
      clear HS
      go_wp2_with (refine wpList_make_full _ rfl (.tmp 43) (.tmp 43) 24 rfl wr.heap.size 3 i0 _ 1 Try.underlying24 HI.out.1 HI.out.2.1 HI.out.2.2.1 .i64 .i64 _ _ k rfl rfl (by simp) (by simp) ?c1 ?c2 ?c3 ?_)
      case c1 => rw [HI.out.2.2.2]; omega
      case c2 => unfold maxLen; omega
      case c3 => exact Nat.le_refl _
      intro w1 hown hgrow
      have HW : Hid (Intw w1 wr.heap.size k (fun _ => 0)) := Lib.hid (Intw.of_own hown fun i hi => made_get k i hi)
      have hlt1 : wr.heap.size < w1.heap.size := (hown.lt _ rfl).2
      have DW : Below wr.heap.size wr w1 := Below.grown (Below.refl _ _) hgrow (Nat.le_refl _) (fun k hk => by cases hk)
      have HB1 : Hid (Below w.heap.size w w1) := Lib.hid (hbl.trans (DW.mono hsz))
      have hgw : w.heap.size ≤ wr.heap.size := hsz
      clear hown hgrow DW HB hbl hsz hz
      generalize wr.heap.size = g at *
      go_wp2_with fail
      go_loopw [47] (fun iv wr => ∃ (z : Int) (i : Nat), iv = .int .i64 z ∧ z = i ∧ i ≤ k ∧ Hid (Intw wr g k (fun j => if j < i then nrL P Q j else 0)) ∧ Hid (Below w.heap.size w wr) ∧ g < wr.heap.size) (fun iv _ => k - (intOf iv).toNat)
      case atStart => exact ⟨0, 0, rfl, by omega, by omega, Lib.hid (HW.out.congr fun i _ => (if_neg (by omega)).symm), HB1, hlt1⟩
      case round =>
        obtain ⟨z, i, rfl, hz, hi, HW2, HB, hsw⟩ := hrel
        by_cases hlt : i < k
        · have hlt' : z < (k : Int) := by omega
          subst hz
          have i00 : (0 : Int) ≤ (i : Int) := by omega
          have wz : wrap64 ((i : Int) + 1) = (i : Int) + 1 := by simp only [wrap64]; omega
          obtain ⟨b, o, rfl, hcell⟩ := (HC.out.keep HB.out) (by omega)
          obtain ⟨g0, g1⟩ := hcell i hlt
          obtain ⟨r1, r2, r3, r4⟩ := HRT.out i hlt
          have hbz := World.block_lt_of_cell? _ _ g0
          clear hcell
          obtain ⟨x, hx⟩ : ∃ x, P i = x := ⟨_, rfl⟩
          obtain ⟨y, hy⟩ : ∃ y, Q i = y := ⟨_, rfl⟩
          have HX := Lib.hid hx
          have HY := Lib.hid hy
          rw [hx] at g0 r3 r4
          rw [hy] at g1 r1 r2
          have HBD := Lib.hid (And.intro (And.intro r3 r4) (And.intro r1 r2))
          clear hx hy r1 r2 r3 r4 HW HB1 hlt1
          have hbl := HB.out
          go_wp2_with fail
          refine (nearest_any x y _ HBD.out.1 (by have := HBD.out.2; omega) HBD.out.2.2).mono ?_
          rintro e w3 ⟨rfl, hb⟩
          have hbw : Below wr.heap.size wr w3 := Below.trans (by go_grown) (hb.mono (by first | omega | (simp; done) | (simp; omega)))
          have HW3 := Lib.hid (HW2.out.keep hbw)
          have HB3 := Lib.hid (HB.out.trans (hbw.mono HB.out.size))
          have hs3 : g < w3.heap.size := by have := hbw.size; omega
          clear hb hbw HW2 HB hbl hsw g0 g1
          obtain ⟨m0, m1⟩ := HW3.out i hlt
          have HW4 : Hid (Intw (w3.setCell ⟨g, i, none⟩ (.int .i64 (nrS x y))) g k (fun j => if j < i + 1 then nrL P Q j else 0)) := Lib.hid ((HW3.out.store hlt (nrS x y)).congr fun j hj => by
            unfold updI
            by_cases e : j = i
            · rw [if_pos e, if_pos (by omega), e]; unfold nrL; rw [HX.out, HY.out]
            · rw [if_neg e]
              dsimp only
              by_cases e2 : j < i
              · rw [if_pos e2, if_pos (by omega)]
              · rw [if_neg e2, if_neg (by omega)])
          have HB4 : Hid (Below w.heap.size w (w3.setCell ⟨g, i, none⟩ (.int .i64 (nrS x y)))) := Lib.hid (HB3.out.setCell (p := ⟨g, i, none⟩) (by simp only; omega) _)
          have hs4 : g < (w3.setCell ⟨g, i, none⟩ (.int .i64 (nrS x y))).heap.size := by simpa using hs3
          clear HW3 HB3
          go_wp2_with fail
          go_roundw
          case rel => exact ⟨(i : Int) + 1, i + 1, by first | rfl | rw [wz], by omega, by omega, HW4, HB4, hs4⟩
          case measure => first | (simp [intOf]; done) | (simp [intOf]; omega)
        · obtain rfl : i = k := by omega
          have HW5 : Hid (Intw wr g i (nrL P Q)) := Lib.hid (HW2.out.congr fun j hj => if_pos hj)
          clear HW2 HW
          go_wp2_with fail
          refine (arePowers_any i i (some ⟨g, 0, none⟩) (nrL P Q) i _ (by omega) HW5.out.ints).mono ?_
          obtain ⟨bb, hbb⟩ : ∃ bb, inB i (nrL P Q) i 0 1000 = bb := ⟨_, rfl⟩
          have HBB : Hid (inTo (nrL P Q) 0 1000 i = bb) := Lib.hid (by rw [← hbb]; unfold inB; rw [decide_eq_true rfl]; rfl)
          rw [hbb]
          clear hbb
          rintro e w3 ⟨rfl, hb⟩
          have HW6 := Lib.hid (HW5.out.keep hb)
          have hbl := HB.out.trans (hb.mono HB.out.size)
          clear hb HB HW5
          cases bb with
          | false =>
            have HE : Hid (roundE i P Q = 62) := Lib.hid (by rw [HRE.out, if_neg (by rw [HBB.out]; decide)])
            go_wp2_with fail
            refine bodyPost_ret (v := .tuple #[.slice none 0 0, .int .i64 62]) (by simp [results, Try.results15, go_sem]) rfl ⟨roundR_no HE.out (by decide), hbl⟩
          | true =>
            have HE : Hid (roundE i P Q = 0) := Lib.hid (by rw [HRE.out, if_pos HBB.out])
            go_wp2_with fail
            refine bodyPost_ret (v := .tuple #[.slice (some ⟨g, 0, none⟩) i i, .int .i64 0]) (by simp [results, Try.results15, go_sem]) rfl ⟨roundR_ok HE.out HW6.out, hbl⟩
end Go.Proofs.Ytldepffpafccpaa
