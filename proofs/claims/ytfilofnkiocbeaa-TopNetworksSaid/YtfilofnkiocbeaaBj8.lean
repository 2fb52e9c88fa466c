import Derived.Test.YtfilofnkiocbeaaBi8
import Derived.Test.YtfilofnkiocbeaaBs8
namespace Ben
/-- How many are turned. -/
def tu (s : Nat → Bool) : Nat → Nat
  | 0 => 0
  | n + 1 => tu s n + (if s n = true then 1 else 0)
theorem tu_le (s : Nat → Bool) : ∀ n, tu s n ≤ n
  | 0 => Nat.le_refl _
  | n + 1 => by have := tu_le s n; unfold tu; split <;> omega
end Ben
namespace Go.Proofs.Ytfilofnkiocbeaa
open Go.RowKit Ben
def tuV (n : Int) (m : Nat) (s : Nat → Bool) : Int := if ckE n m = 0 then (tu s m : Int) else 0
theorem cellsN_get (l : List Nat) {i : Nat} (h : i < l.length) : (cellsN l)[i]? = some (.int .i64 (fn l i)) := by
  unfold cellsN fn
  rw [List.getElem?_map, List.getElem?_eq_getElem h, List.getD_eq_getElem?_getD, List.getElem?_eq_getElem h]
  rfl
theorem made_bool (n i : Nat) (h : i < n) : (madeCells #[Value.bool false] n).toList[i]? = some (.bool false) := by
  have e : i % 1 = 0 := Nat.mod_one i
  simp [madeCells, h, e]
set_option maxRecDepth 100000 in
theorem infoBool : (Try.prog.info? 4).map (fun i => (i.zero, i.size, i.bytes)) = some (some (.bool false), 1, 1) := by kernel_rfl
set_option maxRecDepth 100000 in
set_option maxHeartbeats 4000000 in
theorem pTurned_any (n : Int) (m cap : Nat) (ao : Option Addr) (s : Nat → Bool) (w : World) (hm : m ≤ 80) (hc : Bools w ao m s) :
    Calls Try.prog 24 #[.int .i64 n, .slice ao m cap] w fun e w' => e = .returned (.tuple #[.int .i64 (tuV n m s), .int .i64 (ckE n m)]) ∧ w = w' := by
  by_cases he : ckE n m = 0
  · have e1 : tuV n m s = (tu s m : Int) := by unfold tuV; rw [if_pos he]
    rw [e1]
    have HE := Lib.hid he
    have HC := Lib.hid hc
    have htm := tu_le s m
    rw [HE.out]
    clear e1 he hc
    go_enter Try.func24, Try.ntmps24
    go_wp2_with fail
    refine (checkB_any n ao m cap _ (by omega)).mono ?_
    rw [HE.out]
    rintro e w' ⟨rfl, rfl⟩
    go_wp2_with fail
    go_loopw [7, 18] (fun cv iv wr => ∃ (z : Int) (i y : Nat), iv = .int .i64 z ∧ cv = .int .i64 y ∧ z = i ∧ i ≤ m ∧ Hid (y = tu s i) ∧ w = wr) (fun _ iv _ => m - (intOf iv).toNat)
    case atStart => exact ⟨0, 0, 0, rfl, rfl, rfl, by omega, Lib.hid rfl, rfl⟩
    case round =>
      obtain ⟨z, i, y, rfl, rfl, hz, hi, HY, rfl⟩ := hrel
      have hy := tu_le s i
      rw [← HY.out] at hy
      by_cases hlt : i < m
      · have hlt' : z < (m : Int) := by omega
        subst hz
        have i00 : (0 : Int) ≤ (i : Int) := by omega
        have wz : wrap64 ((i : Int) + 1) = (i : Int) + 1 := by simp only [wrap64]; omega
        have wy : wrap64 ((y : Int) + 1) = (y : Int) + 1 := by clear wz; simp only [wrap64]; omega
        obtain ⟨b, o, rfl, hcell⟩ := HC.out (by omega)
        have g0 := hcell i hlt
        clear hcell
        cases ht : s i with
        | false =>
          rw [ht] at g0
          have HY2 : Hid (y = tu s (i + 1)) := Lib.hid (by unfold tu; rw [ht, ← HY.out]; rfl)
          clear ht HY
          go_wp2_with fail
          go_roundw
          case rel => exact ⟨(i : Int) + 1, i + 1, y, by first | rfl | rw [wz], rfl, by clear wz wy; omega, by clear wz wy; omega, HY2, by first | rfl | trivial⟩
          case measure => clear wz wy; first | (simp [intOf]; done) | (simp [intOf]; omega)
        | true =>
          rw [ht] at g0
          have HY2 : Hid (y + 1 = tu s (i + 1)) := Lib.hid (by unfold tu; rw [ht, ← HY.out]; rfl)
          clear ht HY
          go_wp2_with fail
          go_roundw
          case rel => exact ⟨(i : Int) + 1, i + 1, y + 1, by first | rfl | rw [wz], by first | rfl | rw [wy] <;> rfl, by clear wz wy; omega, by clear wz wy; omega, HY2, by first | rfl | trivial⟩
          case measure => clear wz wy; first | (simp [intOf]; done) | (simp [intOf]; omega)
      · obtain rfl : i = m := by omega
        have hzn : ¬ z < (i : Int) := by omega
        subst hz
        have HYY : Hid (((tu s i : Nat) : Int) = (y : Int)) := Lib.hid (by rw [HY.out])
        clear HY
        go_wp2_with fail
        go_ret2
        exact ⟨by rw [HYY.out] <;> rfl, rfl⟩
  · have e1 : tuV n m s = 0 := by unfold tuV; rw [if_neg he]
    have h1 : (ckE n m != 0) = true := bne_iff_ne.2 he
    rw [e1]
    clear he e1 hc
    go_enter Try.func24, Try.ntmps24
    go_wp2_with fail
    refine (checkB_any n ao m cap _ (by omega)).mono ?_
    rintro e w' ⟨rfl, rfl⟩
    go_wp2_with fail
    go_ret2
    exact ⟨rfl, rfl⟩
set_option maxRecDepth 100000 in
set_option maxHeartbeats 4000000 in
theorem rTurned_any (n : Int) (m cap : Nat) (ao : Option Addr) (s : Nat → Bool) (w : World) (hm : m ≤ 80) (hc : Bools w ao m s) :
    Calls Try.prog 25 #[.int .i64 n, .slice ao m cap] w fun e w' => e = .returned (.tuple #[.int .i64 (tuV n m s), .int .i64 (ckE n m)]) ∧ w = w' := by
  by_cases he : ckE n m = 0
  · have e1 : tuV n m s = (tu s m : Int) := by unfold tuV; rw [if_pos he]
    rw [e1]
    have HE := Lib.hid he
    have HC := Lib.hid hc
    have htm := tu_le s m
    rw [HE.out]
    clear e1 he hc
    go_enter Try.func25, Try.ntmps25
    go_wp2_with fail
    refine (asked_any n ao m cap _ (by omega)).mono ?_
    rw [HE.out]
    rintro e w' ⟨rfl, rfl⟩
    go_wp2_with fail
    go_loopw [7, 8] (fun cv iv wr => ∃ (z : Int) (i y : Nat), iv = .int .i64 z ∧ cv = .int .i64 y ∧ z = i ∧ i ≤ m ∧ Hid (y = tu s i) ∧ w = wr) (fun _ iv _ => m - (intOf iv).toNat)
    case atStart => exact ⟨0, 0, 0, rfl, rfl, rfl, by omega, Lib.hid rfl, rfl⟩
    case round =>
      obtain ⟨z, i, y, rfl, rfl, hz, hi, HY, rfl⟩ := hrel
      have hy := tu_le s i
      rw [← HY.out] at hy
      by_cases hlt : i < m
      · have hlt' : z < (m : Int) := by omega
        subst hz
        have i00 : (0 : Int) ≤ (i : Int) := by omega
        have wz : wrap64 ((i : Int) + 1) = (i : Int) + 1 := by simp only [wrap64]; omega
        have wy : wrap64 ((y : Int) + 1) = (y : Int) + 1 := by clear wz; simp only [wrap64]; omega
        obtain ⟨b, o, rfl, hcell⟩ := HC.out (by omega)
        have g0 := hcell i hlt
        clear hcell
        cases ht : s i with
        | false =>
          rw [ht] at g0
          have HY2 : Hid (y = tu s (i + 1)) := Lib.hid (by unfold tu; rw [ht, ← HY.out]; rfl)
          clear ht HY
          go_wp2_with fail
          go_roundw
          case rel => exact ⟨(i : Int) + 1, i + 1, y, by first | rfl | rw [wz], rfl, by clear wz wy; omega, by clear wz wy; omega, HY2, by first | rfl | trivial⟩
          case measure => clear wz wy; first | (simp [intOf]; done) | (simp [intOf]; omega)
        | true =>
          rw [ht] at g0
          have HY2 : Hid (y + 1 = tu s (i + 1)) := Lib.hid (by unfold tu; rw [ht, ← HY.out]; rfl)
          clear ht HY
          go_wp2_with fail
          go_roundw
          case rel => exact ⟨(i : Int) + 1, i + 1, y + 1, by first | rfl | rw [wz], by first | rfl | rw [wy] <;> rfl, by clear wz wy; omega, by clear wz wy; omega, HY2, by first | rfl | trivial⟩
          case measure => clear wz wy; first | (simp [intOf]; done) | (simp [intOf]; omega)
      · obtain rfl : i = m := by omega
        have hzn : ¬ z < (i : Int) := by omega
        subst hz
        have HYY : Hid (((tu s i : Nat) : Int) = (y : Int)) := Lib.hid (by rw [HY.out])
        clear HY
        go_wp2_with fail
        go_ret2
        exact ⟨by rw [HYY.out] <;> rfl, rfl⟩
  · have e1 : tuV n m s = 0 := by unfold tuV; rw [if_neg he]
    have h1 : (ckE n m != 0) = true := bne_iff_ne.2 he
    rw [e1]
    clear he e1 hc
    go_enter Try.func25, Try.ntmps25
    go_wp2_with fail
    refine (asked_any n ao m cap _ (by omega)).mono ?_
    rintro e w' ⟨rfl, rfl⟩
    go_wp2_with fail
    go_ret2
    exact ⟨rfl, rfl⟩
def trE (n : Int) (m : Nat) (x : Int) : Int := if ckE n m = 0 then (if 0 ≤ x ∧ x < n then 0 else 2) else ckE n m
/-- What comes back of Trace where all is well. -/
def TrcR (B : Nat) (w : World) (e : Ending) (k i : Nat) (s : Nat → Bool) : Prop := ∃ V, e = .returned (.tuple #[V, .int .i64 0]) ∧ w.ownsRow B 3 1 V (dp k) (cellsN (met s k 0 i))
set_option maxRecDepth 100000 in
set_option maxHeartbeats 2000000 in
theorem pTrace_no (n x : Int) (m cap : Nat) (ao : Option Addr) (w : World) (hm : m ≤ 80) (he : trE n m x ≠ 0) :
    Calls Try.prog 40 #[.int .i64 n, .slice ao m cap, .int .i64 x] w fun e w' => e = .returned (.tuple #[.slice none 0 0, .int .i64 (trE n m x)]) ∧ w = w' := by
  by_cases h0 : ckE n m = 0
  · have hx : ¬ (0 ≤ x ∧ x < n) := fun h => he (by unfold trE; rw [if_pos h0, if_pos h])
    have e1 : trE n m x = 2 := by unfold trE; rw [if_pos h0, if_neg hx]
    have HE := Lib.hid h0
    rw [e1]
    clear e1 he h0
    by_cases h1 : x < 0
    · clear hx
      go_enter Try.func40, Try.ntmps40
      go_wp2_with fail
      refine (checkB_any n ao m cap _ (by omega)).mono ?_
      rw [HE.out]
      rintro e w' ⟨rfl, rfl⟩
      go_wp2_with fail
      go_ret2
      exact ⟨rfl, rfl⟩
    · have h2 : n ≤ x := by omega
      have h3 : ¬ x < n := by omega
      clear hx
      go_enter Try.func40, Try.ntmps40
      go_wp2_with fail
      refine (checkB_any n ao m cap _ (by omega)).mono ?_
      rw [HE.out]
      rintro e w' ⟨rfl, rfl⟩
      go_wp2_with fail
      go_ret2
      exact ⟨rfl, rfl⟩
  · have e1 : trE n m x = ckE n m := by unfold trE; rw [if_neg h0]
    have h1 : (ckE n m != 0) = true := bne_iff_ne.2 h0
    have h2 : (ckE n m == 0) = false := beq_eq_false_iff_ne.2 h0
    rw [e1]
    clear e1 he h0
    go_enter Try.func40, Try.ntmps40
    go_wp2_with fail
    refine (checkB_any n ao m cap _ (by omega)).mono ?_
    rintro e w' ⟨rfl, rfl⟩
    go_wp2_with fail
    go_ret2
    exact ⟨rfl, rfl⟩
set_option maxRecDepth 100000 in
set_option maxHeartbeats 2000000 in
theorem rTrace_no (n x : Int) (m cap : Nat) (ao : Option Addr) (w : World) (hm : m ≤ 80) (he : trE n m x ≠ 0) :
    Calls Try.prog 41 #[.int .i64 n, .slice ao m cap, .int .i64 x] w fun e w' => e = .returned (.tuple #[.slice none 0 0, .int .i64 (trE n m x)]) ∧ w = w' := by
  by_cases h0 : ckE n m = 0
  · have hx : ¬ (0 ≤ x ∧ x < n) := fun h => he (by unfold trE; rw [if_pos h0, if_pos h])
    have e1 : trE n m x = 2 := by unfold trE; rw [if_pos h0, if_neg hx]
    have HE := Lib.hid h0
    rw [e1]
    clear e1 he h0
    by_cases h1 : x < 0
    · clear hx
      go_enter Try.func41, Try.ntmps41
      go_wp2_with fail
      refine (asked_any n ao m cap _ (by omega)).mono ?_
      rw [HE.out]
      rintro e w' ⟨rfl, rfl⟩
      go_wp2_with fail
      go_ret2
      exact ⟨rfl, rfl⟩
    · have h2 : n ≤ x := by omega
      have h3 : ¬ x < n := by omega
      clear hx
      go_enter Try.func41, Try.ntmps41
      go_wp2_with fail
      refine (asked_any n ao m cap _ (by omega)).mono ?_
      rw [HE.out]
      rintro e w' ⟨rfl, rfl⟩
      go_wp2_with fail
      go_ret2
      exact ⟨rfl, rfl⟩
  · have e1 : trE n m x = ckE n m := by unfold trE; rw [if_neg h0]
    have h1 : (ckE n m != 0) = true := bne_iff_ne.2 h0
    have h2 : (ckE n m == 0) = false := beq_eq_false_iff_ne.2 h0
    rw [e1]
    clear e1 he h0
    go_enter Try.func41, Try.ntmps41
    go_wp2_with fail
    refine (asked_any n ao m cap _ (by omega)).mono ?_
    rintro e w' ⟨rfl, rfl⟩
    go_wp2_with fail
    go_ret2
    exact ⟨rfl, rfl⟩
set_option maxRecDepth 100000 in
set_option maxHeartbeats 4000000 in
theorem pTrace_ok (k i cap : Nat) (ao : Option Addr) (s : Nat → Bool) (w : World) (hk : k ≤ 3) (hi : i < sz k) (hc : Bools w ao (cn k) s) :
    Calls Try.prog 40 #[.int .i64 (sz k : Nat), .slice ao (cn k) cap, .int .i64 (i : Nat)] w fun e w' => TrcR w.heap.size w' e k i s ∧ Below w.heap.size w w' := by
  have hc56 := cn_le hk
  have hcp := cn_pos k
  have HE := Lib.hid (ckE_sz hk)
  have h1 : ¬ ((i : Int) < 0) := by omega
  have h2 : ¬ (((sz k : Nat) : Int) ≤ (i : Int)) := by omega
  go_enter Try.func40, Try.ntmps40
  go_wp2_with fail
  refine (checkB_any _ ao (cn k) cap _ (by omega)).mono ?_
  rw [HE.out]
  rintro e w' ⟨rfl, rfl⟩
  go_wp2_with fail
  refine (numbered_any (cn k) cap ao s _ hcp (by omega) hc).mono ?_
  rintro e w1 ⟨⟨gu, cu, rfl, hU, hgB, hgs, hgc, hgm⟩, hb⟩
  have HU := Lib.hid hU
  have HB := Lib.hid hb
  clear hU hb hc
  go_wp2_with fail
  refine (follow_any s k hk gu 0 cu 0 i _ hgc hgm (by omega) hi HU.out).mono ?_
  rintro e w3 ⟨⟨V, rfl, hV⟩, hb3⟩
  have HV := Lib.hid (own_weak hV HB.out.size)
  have hbl := HB.out.trans (hb3.mono HB.out.size)
  clear hV hb3
  go_wp2_with fail
  go_ret2
  exact ⟨⟨V, rfl, HV.out⟩, hbl⟩
set_option maxRecDepth 100000 in
set_option maxHeartbeats 4000000 in
theorem rTrace_ok (k i cap : Nat) (ao : Option Addr) (s : Nat → Bool) (w : World) (hk : k ≤ 3) (hi : i < sz k) (hc : Bools w ao (cn k) s) :
    Calls Try.prog 41 #[.int .i64 (sz k : Nat), .slice ao (cn k) cap, .int .i64 (i : Nat)] w fun e w' => TrcR w.heap.size w' e k i s ∧ Below w.heap.size w w' := by
  have hc56 := cn_le hk
  have hcp := cn_pos k
  obtain ⟨b0, o0, rfl, hcell⟩ := hc (by omega)
  have hbw := World.block_lt_of_cell? _ _ (hcell 0 (by omega))
  have HC := Lib.hid hcell
  have HE := Lib.hid (ckE_sz hk)
  have h1 : ¬ ((i : Int) < 0) := by omega
  have h2 : ¬ (((sz k : Nat) : Int) ≤ (i : Int)) := by omega
  clear hc hcell
  go_enter Try.func41, Try.ntmps41
  go_wp2_with fail
  refine (asked_any _ (some ⟨b0, o0, none⟩) (cn k) cap _ (by omega)).mono ?_
  rw [HE.out]
  rintro e w' ⟨rfl, rfl⟩
  go_wp2_with fail
  refine (rOut_any s w.heap.size (cn k) cap b0 o0 (by omega) hbw k hk 0 i 0 0 (.slice none 0 0) [] _ rfl (Nat.le_refl _) HC.out (by omega) hi (by unfold dp; omega) (World.ownsRow_nil _ _ _ _)).mono ?_
  rintro e w3 ⟨⟨V, rfl, hV⟩, hb3⟩
  rw [Nat.zero_add, List.nil_append] at hV
  have HV := Lib.hid hV
  clear hV
  go_wp2_with fail
  go_ret2
  exact ⟨⟨V, rfl, HV.out⟩, hb3⟩
set_option maxRecDepth 100000 in
set_option maxHeartbeats 4000000 in
theorem sane_any (w : World) : Calls Try.prog 21 #[] w fun e w' => e = .returned (.bool true) ∧ Below w.heap.size w w' := by
  obtain ⟨i0, hi0, hz0, hz1, hz2⟩ := info_parts infoBool
  have HI := Lib.hid (And.intro hi0 (And.intro hz0 (And.intro hz1 hz2)))
  clear hi0 hz0 hz1 hz2
  go_enter Try.func21, Try.ntmps21
  go_wp2_with (refine wpList_make_full _ rfl _ _ 27 rfl w.heap.size 4 i0 _ 1 Try.underlying27 HI.out.1 HI.out.2.1 HI.out.2.2.1 .i64 .i64 _ _ 6 rfl rfl (by simp) (by simp) ?c1 ?c2 ?c3 ?_)
  case c1 => rw [HI.out.2.2.2]; omega
  case c2 => unfold maxLen; omega
  case c3 => exact Nat.le_refl _
  intro w1 hown hgrow
  have hb1 : Below w.heap.size w w1 := Below.grown (Below.refl _ _) hgrow (Nat.le_refl _) (fun k hk => by cases hk)
  have HBO : Hid (Bools w1 (some ⟨w.heap.size, 0, none⟩) 6 (fun _ => false)) := Lib.hid (fun _ => ⟨w.heap.size, 0, rfl, fun i hi => by
    rw [Nat.zero_add]
    refine (hown.cellAt i (by omega)).trans ?_
    exact made_bool 6 i hi⟩)
  have HB1 := Lib.hid hb1
  clear hown hgrow hb1
  go_wp2_with fail
  refine (pThrough_ok 1 6 (some ⟨w.heap.size, 0, none⟩) (fun _ => false) _ (by omega) HBO.out).mono ?_
  rintro e w2 ⟨⟨g, cap, rfl, hW, hgB, hgs⟩, hb⟩
  have c1 := (hW 1 (by decide)).1
  rw [show ouF (fun _ => false) 1 1 = 1 from rfl] at c1
  have hbl := HB1.out.trans (hb.mono HB1.out.size)
  clear hW hb HBO
  go_wp2_with fail
  refine (pCount_any 4 _).mono ?_
  rw [show cnV 4 = 6 from rfl, show szE 4 = 0 from rfl]
  rintro e w' ⟨rfl, rfl⟩
  have c4 : ((sz 1 : Nat) : Int) = 4 := rfl
  go_wp2_with fail
  go_returns
  exact ⟨rfl, hbl⟩
end Go.Proofs.Ytfilofnkiocbeaa
