import Derived.Test.YtjodjfllgofkaaaXm
import Derived.Deep.RegionWith
namespace Prm
open Amp
/-- The matrix of a permutation, its first k columns done. -/
def pmT (n : Nat) (f : Nat → Int) (k i : Nat) : Nm := if i % n < k ∧ f (i % n) = ((i / n : Nat) : Int) then N1 else N0
theorem pmT_zero (n : Nat) (f : Nat → Int) (i : Nat) : pmT n f 0 i = N0 := by unfold pmT; rw [if_neg (by omega)]
theorem pmT_all {n : Nat} {f : Nat → Int} {i : Nat} (h : i < n * n) : pmT n f n i = Go.Proofs.Ytjodjfllgofkaaa.pmF n f i := by
  have hn : 0 < n := by rcases Nat.eq_zero_or_pos n with e | e; · subst e; simp at h
                        · exact e
  have h1 : i % n < n := Nat.mod_lt _ hn
  unfold pmT Go.Proofs.Ytjodjfllgofkaaa.pmF
  by_cases e : f (i % n) = ((i / n : Nat) : Int)
  · rw [if_pos ⟨h1, e⟩, if_pos e]
  · rw [if_neg (fun h => e h.2), if_neg e]
theorem pmT_step {n k y : Nat} {f : Nat → Int} (hk : k < n) (hy : f k = y) (i : Nat) : updN (pmT n f k) (y * n + k) N1 i = pmT n f (k + 1) i := by
  have hd := (divmod_at (i := y) hk).1
  have hm := (divmod_at (i := y) hk).2
  by_cases e : i = y * n + k
  · subst e
    rw [updN_at]
    unfold pmT
    rw [hd, hm, if_pos ⟨by omega, hy⟩]
  · rw [updN_ne _ _ e]
    unfold pmT
    by_cases h2 : f (i % n) = ((i / n : Nat) : Int)
    · by_cases h1 : i % n < k
      · rw [if_pos ⟨h1, h2⟩, if_pos ⟨by omega, h2⟩]
      · rw [if_neg (fun h => h1 h.1), if_neg]
        rintro ⟨h3, _⟩
        have h4 : i % n = k := by omega
        rw [h4, hy] at h2
        apply e
        have := Nat.div_add_mod i n
        rw [h4, Nat.mul_comm] at this
        have : i / n = y := by omega
        subst this
        omega
    · rw [if_neg (fun h => h2 h.2), if_neg (fun h => h2 h.2)]
end Prm
namespace Go.Proofs.Ytjodjfllgofkaaa
open Go.RowKit Amp Prm
theorem mad5 {m j : Nat} (h : j < m) : (madeCells #[.int .i64 0, .int .i64 0, .int .i64 0, .int .i64 0, .int .i64 0] m).toList[j]? = some (.int .i64 0) := by
  simp only [madeCells, Array.toList_map, Array.toList_range, List.getElem?_map, List.getElem?_range h, Option.map_some]
  have hr : j % 5 < 5 := Nat.mod_lt _ (by omega)
  show some ((#[.int .i64 0, .int .i64 0, .int .i64 0, .int .i64 0, .int .i64 0] : Array Value)[j % 5]!) = some (.int .i64 0)
  generalize j % 5 = r at *
  rcases (show r = 0 ∨ r = 1 ∨ r = 2 ∨ r = 3 ∨ r = 4 by omega) with rfl | rfl | rfl | rfl | rfl <;> rfl

set_option maxRecDepth 100000 in
set_option maxHeartbeats 2000000 in
theorem permMatrix_no (n cap : Nat) (ao : Option Addr) (f : Nat → Int) (w : World) (hn : n ≤ 9223372036854775807) (hc : Ints w ao n f) (hp : csE n f ≠ 0) :
    Calls Try.prog 35 #[.slice ao n cap] w fun e w' => e = .returned (.tuple #[.agg #[.int .i64 0, .slice none 0 0], .int .i64 (csE n f)]) ∧ Below w.heap.size w w' := by
  have HC := Lib.hid hc
  obtain ⟨er, her⟩ : ∃ er, csE n f = er := ⟨_, rfl⟩
  rw [her] at hp
  rw [her]
  have HER := Lib.hid her
  have hb0 : (er == 0) = false := beq_eq_false_iff_ne.2 hp
  have hb1 : (er != 0) = true := bne_iff_ne.2 hp
  clear hc hp her
  go_enter Try.func35, Try.ntmps35
  go_wp2_with fail
  refine (checkSmall_any n cap ao f _ hn (HC.out.keep (by go_grown))).mono ?_
  rintro e w1 ⟨rfl, hb⟩
  rw [HER.out]
  obtain ⟨ka1, kb1⟩ := bcl hb
  have c0 : w1.cell? ⟨w.heap.size, 0, none⟩ = some (.int .i64 0) := (ka1 _ _ (by simp)).trans (by go_cell)
  have c1 : w1.cell? ⟨w.heap.size, 1, none⟩ = some (.slice none 0 0) := (ka1 _ _ (by simp)).trans (by go_cell)
  have g0 : w1.frozen? ⟨w.heap.size, 0, none⟩ = false := (kb1 _ _ (by simp)).trans (by go_cell)
  have g1 : w1.frozen? ⟨w.heap.size, 1, none⟩ = false := (kb1 _ _ (by simp)).trans (by go_cell)
  have D1 : Below w.heap.size w w1 := Below.trans (by go_grown) (hb.mono (by simp))
  clear hb ka1 kb1
  go_wp2_with fail
  try go_region
  all_goals
    go_wp2_with fail
    refine bodyPost_ret (v := .tuple #[.agg #[.int .i64 0, .slice none 0 0], .int .i64 er]) (by simp [results, Try.results35, go_sem, *]) rfl ⟨rfl, by go_grown⟩

set_option maxRecDepth 100000 in
set_option maxHeartbeats 4000000 in
theorem permMatrix_ok (n cap : Nat) (ao : Option Addr) (f : Nat → Int) (w : World) (hc : Ints w ao n f) (hp : permB n f = true) (h6 : n ≤ 6) :
    Calls Try.prog 35 #[.slice ao n cap] w fun e w' => MatW w.heap.size w' e n (pmF n f) ∧ Below w.heap.size w w' := by
  obtain ⟨i0, hi, hz0, hz1, hz2⟩ := info_parts infoNum
  have HI := Lib.hid (And.intro hi (And.intro hz0 (And.intro hz1 hz2)))
  have HC := Lib.hid hc
  obtain ⟨h1, _, hrg⟩ := permB_yes hp
  have HRG := Lib.hid hrg
  have HP : Hid (csE n f = 0) := Lib.hid (by unfold csE; rw [hp, if_pos h6]; rfl)
  have h6' : (n : Int) ≤ 6 := by omega
  have h36 : n * n ≤ 36 := Nat.mul_le_mul h6 h6
  have h36' : (n : Int) * (n : Int) ≤ 36 := by have := h36; rw [← Int.natCast_mul]; omega
  have h0' : 0 ≤ (n : Int) * (n : Int) := by rw [← Int.natCast_mul]; omega
  clear hc hp hi hz0 hz1 hz2 hrg
  go_enter Try.func35, Try.ntmps35
  go_wp2_with fail
  refine (checkSmall_any n cap ao f _ (by omega) (HC.out.keep (by go_grown))).mono ?_
  rintro e w1 ⟨rfl, hb⟩
  rw [HP.out]
  obtain ⟨ka1, kb1⟩ := bcl hb
  have c0 : w1.cell? ⟨w.heap.size, 0, none⟩ = some (.int .i64 0) := (ka1 _ _ (by simp)).trans (by go_cell)
  have c1 : w1.cell? ⟨w.heap.size, 1, none⟩ = some (.slice none 0 0) := (ka1 _ _ (by simp)).trans (by go_cell)
  have g0 : w1.frozen? ⟨w.heap.size, 0, none⟩ = false := (kb1 _ _ (by simp)).trans (by go_cell)
  have g1 : w1.frozen? ⟨w.heap.size, 1, none⟩ = false := (kb1 _ _ (by simp)).trans (by go_cell)
  have D1 : Below w.heap.size w w1 := Below.trans (by go_grown) (hb.mono (by simp))
  have hs1 : w.heap.size < w1.heap.size := by have := hb.size; simp at this; omega
  clear hb ka1 kb1
  go_wp2_with (refine wpList_make_full _ rfl (.tmp 20) (.tmp 20) 23 rfl w1.heap.size 63 i0 _ 5 Try.underlying23 HI.out.1 HI.out.2.1 HI.out.2.2.1 .i64 .i64 _ _ (n * n) rfl rfl (by simp) (by simp) ?c1 ?c2 ?c3 ?_)
  case c1 => rw [HI.out.2.2.2]; omega
  case c2 => unfold maxLen; omega
  case c3 => exact Nat.le_refl _
  intro w2 hown hgrow
  have HB : Below w1.heap.size w1 w2 := (Below.refl _ _).grown hgrow (Nat.le_refl _) (fun k hk => by cases hk)
  obtain ⟨k1, k2⟩ := bcl HB
  have d0 : w2.cell? ⟨w.heap.size, 0, none⟩ = some (.int .i64 0) := (k1 _ _ hs1).trans c0
  have d1 : w2.cell? ⟨w.heap.size, 1, none⟩ = some (.slice none 0 0) := (k1 _ _ hs1).trans c1
  have e0 : w2.frozen? ⟨w.heap.size, 0, none⟩ = false := (k2 _ _ hs1).trans g0
  have e1 : w2.frozen? ⟨w.heap.size, 1, none⟩ = false := (k2 _ _ hs1).trans g1
  have D2 : Below w.heap.size w w2 := D1.trans (HB.mono (by omega))
  have hs2 : w1.heap.size < w2.heap.size := (hown.lt _ rfl).2
  have hs3 : w.heap.size < w2.heap.size := by omega
  have hnw : Numw w2 w1.heap.size (n * n) (fun _ => N0) := Numw.of_own hown (fun i hi t ht => by
    rw [mad5 (by omega)]
    rcases (show t = 0 ∨ t = 1 ∨ t = 2 ∨ t = 3 ∨ t = 4 by omega) with rfl | rfl | rfl | rfl | rfl <;> rfl)
  have HN := Lib.hid hnw
  clear HB k1 k2 hown hgrow hnw c0 c1 g0 g1 D1
  go_wp2_with fail
  go_loopw [7, 8, 25] (fun _ _ i wr => ∃ k : Nat, i = .int .i64 k ∧ k ≤ n ∧ Numw wr w1.heap.size (n * n) (pmT n f k) ∧ wr.cell? ⟨w.heap.size, 0, none⟩ = some (.int .i64 0) ∧ wr.cell? ⟨w.heap.size, 1, none⟩ = some (.slice none 0 0) ∧ wr.frozen? ⟨w.heap.size, 0, none⟩ = false ∧ wr.frozen? ⟨w.heap.size, 1, none⟩ = false ∧
    wr.cell? ⟨w2.heap.size, 0, none⟩ = some (.int .i64 n) ∧ wr.cell? ⟨w2.heap.size, 1, none⟩ = some (.slice (some ⟨w1.heap.size, 0, none⟩) (n * n) (n * n)) ∧ Below w.heap.size w wr ∧ w2.heap.size < wr.heap.size) (fun _ _ i _ => n - (intOf i).toNat)
  case atStart =>
    refine ⟨0, rfl, Nat.zero_le _, ?_, by go_cell, by go_cell, by go_cell, by go_cell, by go_cell, by go_cell, by go_grown, by simp⟩
    refine Numw.congr (f := fun _ => N0) ?_ (fun k _ => (pmT_zero n f k).symm)
    exact HN.out.alloc _
  case round =>
    obtain ⟨k, rfl, hk, hnw, d0, d1, e0, e1, q0, q1, hbel, hsz⟩ := hrel
    have lw : w.heap.size < wr.heap.size := by omega
    have lg : w1.heap.size < wr.heap.size := by omega
    by_cases hlt : k < n
    · have hlt' : (k : Int) < (n : Int) := by omega
      obtain ⟨b, o, rfl, hcell⟩ := (Ints.keep HC.out hbel) (by omega)
      have a0 := hcell k hlt
      obtain ⟨hx0, hxn, _⟩ := HRG.out k hlt
      obtain ⟨y, hy⟩ : ∃ y : Nat, f k = y := ⟨(f k).toNat, by omega⟩
      rw [hy] at a0 hx0 hxn
      have hyn : y < n := by omega
      have hmn : y * n + k < n * n := by
        have h1 : (y + 1) * n ≤ n * n := Nat.mul_le_mul_right n (by omega)
        rw [Nat.succ_mul] at h1
        omega
      obtain ⟨m, hm⟩ : ∃ m, Hid (y * n + k = m) := ⟨_, rfl⟩
      obtain ⟨p, hp⟩ : ∃ p, Hid (y * n = p) := ⟨_, rfl⟩
      have hpi : (y : Int) * (n : Int) = (p : Int) := by rw [← Int.natCast_mul, hp.out]
      have hpm : (p : Int) + (k : Int) = (m : Int) := by have := hm.out; have := hp.out; omega
      have hm36 : m < n * n := by rw [← hm.out]; exact hmn
      have hmi : (m : Int) < ((n * n : Nat) : Int) := by omega
      have hmi2 : (m : Int) < (n : Int) * (n : Int) := by rw [← Int.natCast_mul]; exact hmi
      have y1 : IntKind.i64.wrap (p : Int) = (p : Int) := IntWalk.i64_in _ (by have := hp.out; omega)
      have y2 : IntKind.i64.wrap (m : Int) = (m : Int) := IntWalk.i64_in _ (by omega)
      obtain ⟨⟨b0, b1, b2, b3, b4⟩, p0, p1, p2, p3, p4⟩ := hnw m hm36
      have hs1' := (hnw.store hm36 1 0 0 0 0).congr (f' := pmT n f (k + 1)) (fun i _ => by have := pmT_step hlt hy i; rw [hm.out] at this; exact this)
      have HS1 := Lib.hid hs1'
      have m1 : ¬ w1.heap.size = w.heap.size := by omega
      have m2 : ¬ w1.heap.size = w2.heap.size := by omega
      clear hnw hmn hs1' hcell hy hx0
      go_wp2_with fail
      go_roundw
      case rel => exact ⟨k + 1, by go_num, by omega, HS1.out, by go_cell, by go_cell, by go_cell, by go_cell, by go_cell, by go_cell, by go_grown, by simp; omega⟩
      case measure => simp [intOf]; omega
    · obtain rfl : k = n := by omega
      have HNW := Lib.hid (hnw.congr (fun i hi => pmT_all hi))
      clear hnw
      go_wp2_with fail
      refine bodyPost_ret (v := .tuple #[.agg #[.int .i64 k, .slice (some ⟨w1.heap.size, 0, none⟩) (k * k) (k * k)], .int .i64 0]) (by simp [results, Try.results35, go_sem, *]) rfl ⟨⟨_, _, rfl, (HNW.out.other (by omega)).other (by omega), by omega, Nat.le_refl _, by omega⟩, by go_grown⟩
end Go.Proofs.Ytjodjfllgofkaaa

namespace Go.Proofs.Ytjodjfllgofkaaa
open Go.RowKit Amp Prm
theorem rOne_x (w : World) : Calls Try.prog 76 #[] w fun e w' => e = .returned (.agg #[.int .i64 1, .int .i64 0, .int .i64 0, .int .i64 0, .int .i64 0]) ∧ Below w.heap.size w w' := by
  go_enter Try.func76, Try.ntmps76
  go_wp2_with fail
  go_returns
  exact ⟨rfl, by go_grown⟩

set_option maxRecDepth 100000 in
set_option maxHeartbeats 2000000 in
theorem rPermMatrix_no (n cap : Nat) (ao : Option Addr) (f : Nat → Int) (w : World) (hn : n ≤ 9223372036854775807) (hc : Ints w ao n f) (hp : csE n f ≠ 0) :
    Calls Try.prog 36 #[.slice ao n cap] w fun e w' => e = .returned (.tuple #[.agg #[.int .i64 0, .slice none 0 0], .int .i64 (csE n f)]) ∧ Below w.heap.size w w' := by
  have HC := Lib.hid hc
  obtain ⟨er, her⟩ : ∃ er, csE n f = er := ⟨_, rfl⟩
  have HPP : Hid (permB n f = false ∧ er = 40 ∨ permB n f = true ∧ 6 < n ∧ er = 4) := Lib.hid (by
    unfold csE at hp her
    cases h : permB n f with
    | false => rw [h] at her; left; exact ⟨rfl, by rw [← her]; rfl⟩
    | true =>
      rw [h, if_pos rfl] at her hp
      right
      by_cases h6 : n ≤ 6
      · rw [if_pos h6] at hp; exact absurd rfl hp
      · rw [if_neg h6] at her; exact ⟨rfl, by omega, her.symm⟩)
  rw [her]
  clear hc hp her
  go_enter Try.func36, Try.ntmps36
  go_wp2_with fail
  refine (rValidPerm_any n cap ao f _ hn (HC.out.keep (by go_grown))).mono ?_
  rintro e w1 ⟨rfl, hb⟩
  obtain ⟨ka1, kb1⟩ := bcl hb
  have c0 : w1.cell? ⟨w.heap.size, 0, none⟩ = some (.int .i64 0) := (ka1 _ _ (by simp)).trans (by go_cell)
  have c1 : w1.cell? ⟨w.heap.size, 1, none⟩ = some (.slice none 0 0) := (ka1 _ _ (by simp)).trans (by go_cell)
  have g0 : w1.frozen? ⟨w.heap.size, 0, none⟩ = false := (kb1 _ _ (by simp)).trans (by go_cell)
  have g1 : w1.frozen? ⟨w.heap.size, 1, none⟩ = false := (kb1 _ _ (by simp)).trans (by go_cell)
  have D1 : Below w.heap.size w w1 := Below.trans (by go_grown) (hb.mono (by simp))
  clear hb ka1 kb1
  rcases HPP.out with ⟨hp, rfl⟩ | ⟨hp, h6, rfl⟩
  · have HP := Lib.hid hp
    rw [HP.out]
    clear hp
    go_wp2_with fail
    try go_region
    all_goals
      go_wp2_with fail
      refine bodyPost_ret (v := .tuple #[.agg #[.int .i64 0, .slice none 0 0], .int .i64 40]) (by simp [results, Try.results36, go_sem, *]) rfl ⟨rfl, by go_grown⟩
  · have HP := Lib.hid hp
    rw [HP.out]
    have h6' : 6 < (n : Int) := by omega
    clear hp h6
    go_wp2_with fail
    try go_region
    all_goals
      go_wp2_with fail
      refine bodyPost_ret (v := .tuple #[.agg #[.int .i64 0, .slice none 0 0], .int .i64 4]) (by simp [results, Try.results36, go_sem, *]) rfl ⟨rfl, by go_grown⟩

set_option maxRecDepth 100000 in
set_option maxHeartbeats 4000000 in
theorem rPermMatrix_ok (n cap : Nat) (ao : Option Addr) (f : Nat → Int) (w : World) (hc : Ints w ao n f) (hp : permB n f = true) (h6 : n ≤ 6) :
    Calls Try.prog 36 #[.slice ao n cap] w fun e w' => MatW w.heap.size w' e n (pmF n f) ∧ Below w.heap.size w w' := by
  obtain ⟨i0, hi, hz0, hz1, hz2⟩ := info_parts infoNum
  have HI := Lib.hid (And.intro hi (And.intro hz0 (And.intro hz1 hz2)))
  have HC := Lib.hid hc
  obtain ⟨h1, _, hrg⟩ := permB_yes hp
  have HRG := Lib.hid hrg
  have HP := Lib.hid hp
  have h6' : (n : Int) ≤ 6 := by omega
  have h36 : n * n ≤ 36 := Nat.mul_le_mul h6 h6
  have h36' : (n : Int) * (n : Int) ≤ 36 := by have := h36; rw [← Int.natCast_mul]; omega
  have h0' : 0 ≤ (n : Int) * (n : Int) := by rw [← Int.natCast_mul]; omega
  clear hc hp hi hz0 hz1 hz2 hrg
  go_enter Try.func36, Try.ntmps36
  go_wp2_with fail
  refine (rValidPerm_any n cap ao f _ (by omega) (HC.out.keep (by go_grown))).mono ?_
  rintro e w1 ⟨rfl, hb⟩
  rw [HP.out]
  obtain ⟨ka1, kb1⟩ := bcl hb
  have c0 : w1.cell? ⟨w.heap.size, 0, none⟩ = some (.int .i64 0) := (ka1 _ _ (by simp)).trans (by go_cell)
  have c1 : w1.cell? ⟨w.heap.size, 1, none⟩ = some (.slice none 0 0) := (ka1 _ _ (by simp)).trans (by go_cell)
  have g0 : w1.frozen? ⟨w.heap.size, 0, none⟩ = false := (kb1 _ _ (by simp)).trans (by go_cell)
  have g1 : w1.frozen? ⟨w.heap.size, 1, none⟩ = false := (kb1 _ _ (by simp)).trans (by go_cell)
  have D1 : Below w.heap.size w w1 := Below.trans (by go_grown) (hb.mono (by simp))
  have hs1 : w.heap.size < w1.heap.size := by have := hb.size; simp at this; omega
  clear hb ka1 kb1
  go_wp2_with (refine wpList_make_full _ rfl (.tmp 19) (.tmp 19) 23 rfl w1.heap.size 63 i0 _ 5 Try.underlying23 HI.out.1 HI.out.2.1 HI.out.2.2.1 .i64 .i64 _ _ (n * n) rfl rfl (by simp) (by simp) ?c1 ?c2 ?c3 ?_)
  case c1 => rw [HI.out.2.2.2]; omega
  case c2 => unfold maxLen; omega
  case c3 => exact Nat.le_refl _
  intro w2 hown hgrow
  have HB : Below w1.heap.size w1 w2 := (Below.refl _ _).grown hgrow (Nat.le_refl _) (fun k hk => by cases hk)
  obtain ⟨k1, k2⟩ := bcl HB
  have d0 : w2.cell? ⟨w.heap.size, 0, none⟩ = some (.int .i64 0) := (k1 _ _ hs1).trans c0
  have d1 : w2.cell? ⟨w.heap.size, 1, none⟩ = some (.slice none 0 0) := (k1 _ _ hs1).trans c1
  have e0 : w2.frozen? ⟨w.heap.size, 0, none⟩ = false := (k2 _ _ hs1).trans g0
  have e1 : w2.frozen? ⟨w.heap.size, 1, none⟩ = false := (k2 _ _ hs1).trans g1
  have D2 : Below w.heap.size w w2 := D1.trans (HB.mono (by omega))
  have hs2 : w1.heap.size < w2.heap.size := (hown.lt _ rfl).2
  have hs3 : w.heap.size < w2.heap.size := by omega
  have hnw : Numw w2 w1.heap.size (n * n) (fun _ => N0) := Numw.of_own hown (fun i hi t ht => by
    rw [mad5 (by omega)]
    rcases (show t = 0 ∨ t = 1 ∨ t = 2 ∨ t = 3 ∨ t = 4 by omega) with rfl | rfl | rfl | rfl | rfl <;> rfl)
  have HN := Lib.hid hnw
  clear HB k1 k2 hown hgrow hnw c0 c1 g0 g1 D1
  go_wp2_with fail
  go_loopw [6] (fun i wr => ∃ k : Nat, i = .int .i64 k ∧ k ≤ n ∧ Numw wr w1.heap.size (n * n) (pmT n f k) ∧ wr.cell? ⟨w.heap.size, 0, none⟩ = some (.int .i64 0) ∧ wr.cell? ⟨w.heap.size, 1, none⟩ = some (.slice none 0 0) ∧ wr.frozen? ⟨w.heap.size, 0, none⟩ = false ∧ wr.frozen? ⟨w.heap.size, 1, none⟩ = false ∧
    wr.cell? ⟨w2.heap.size, 0, none⟩ = some (.int .i64 n) ∧ wr.cell? ⟨w2.heap.size, 1, none⟩ = some (.slice (some ⟨w1.heap.size, 0, none⟩) (n * n) (n * n)) ∧ Below w.heap.size w wr ∧ w2.heap.size < wr.heap.size) (fun i _ => n - (intOf i).toNat)
  case atStart =>
    refine ⟨0, rfl, Nat.zero_le _, ?_, by go_cell, by go_cell, by go_cell, by go_cell, by go_cell, by go_cell, by go_grown, by simp⟩
    refine Numw.congr (f := fun _ => N0) ?_ (fun k _ => (pmT_zero n f k).symm)
    exact HN.out.alloc _
  case round =>
    obtain ⟨k, rfl, hk, hnw, d0, d1, e0, e1, q0, q1, hbel, hsz⟩ := hrel
    have lw : w.heap.size < wr.heap.size := by omega
    have lg : w1.heap.size < wr.heap.size := by omega
    by_cases hlt : k < n
    · have hlt' : (k : Int) < (n : Int) := by omega
      obtain ⟨b, o, rfl, hcell⟩ := (Ints.keep HC.out hbel) (by omega)
      have a0 := hcell k hlt
      obtain ⟨hx0, hxn, _⟩ := HRG.out k hlt
      obtain ⟨y, hy⟩ : ∃ y : Nat, f k = y := ⟨(f k).toNat, by omega⟩
      rw [hy] at a0 hx0 hxn
      have hyn : y < n := by omega
      have hmn : y * n + k < n * n := by
        have h1 : (y + 1) * n ≤ n * n := Nat.mul_le_mul_right n (by omega)
        rw [Nat.succ_mul] at h1
        omega
      obtain ⟨m, hm⟩ : ∃ m, Hid (y * n + k = m) := ⟨_, rfl⟩
      obtain ⟨p, hp⟩ : ∃ p, Hid (y * n = p) := ⟨_, rfl⟩
      have hpi : (y : Int) * (n : Int) = (p : Int) := by rw [← Int.natCast_mul, hp.out]
      have hpm : (p : Int) + (k : Int) = (m : Int) := by have := hm.out; have := hp.out; omega
      have hm36 : m < n * n := by rw [← hm.out]; exact hmn
      have hmi : (m : Int) < ((n * n : Nat) : Int) := by omega
      have hmi2 : (m : Int) < (n : Int) * (n : Int) := by rw [← Int.natCast_mul]; exact hmi
      have y1 : IntKind.i64.wrap (p : Int) = (p : Int) := IntWalk.i64_in _ (by have := hp.out; omega)
      have y2 : IntKind.i64.wrap (m : Int) = (m : Int) := IntWalk.i64_in _ (by omega)
      obtain ⟨⟨b0, b1, b2, b3, b4⟩, p0, p1, p2, p3, p4⟩ := hnw m hm36
      have HNW := Lib.hid hnw
      have HY := Lib.hid hy
      have hbs : b < wr.heap.size := World.block_lt_of_cell? wr _ a0
      have HH := Lib.hid (And.intro d0 (And.intro d1 (And.intro e0 (And.intro e1 (And.intro q0 (And.intro q1 a0))))))
      clear hnw hmn hcell hy hx0
      go_wp2_with fail
      go_region_with ((go_at_call 76; refine (rOne_x _).mono ?_; rintro e wA ⟨rfl, hb⟩; have HD : Below wr.heap.size wr wA := (Below.trans (by first | exact Below.refl _ _ | go_grown) (hb.mono (by first | omega | (simp; done) | (simp; omega)))); have HA2 := Lib.hid (HNW.out.keep HD); obtain ⟨⟨_, _, _, _, _⟩, _, _, _, _, _⟩ := HA2.out m hm36; have hzA := HD.size; have A0 := (HD.cell (p := ⟨w.heap.size, 0, none⟩) lw).trans HH.out.1; have A1 := (HD.cell (p := ⟨w.heap.size, 1, none⟩) lw).trans HH.out.2.1; have A2 := (HD.frozen (p := ⟨w.heap.size, 0, none⟩) lw).trans HH.out.2.2.1; have A3 := (HD.frozen (p := ⟨w.heap.size, 1, none⟩) lw).trans HH.out.2.2.2.1; have A4 := (HD.cell (p := ⟨w2.heap.size, 0, none⟩) hsz).trans HH.out.2.2.2.2.1; have A5 := (HD.cell (p := ⟨w2.heap.size, 1, none⟩) hsz).trans HH.out.2.2.2.2.2.1; have A6 := (HD.cell (p := ⟨b, o + k, none⟩) hbs).trans HH.out.2.2.2.2.2.2; clear hb))
      all_goals
        have DA := hbel.trans (HD.mono (show w.heap.size ≤ wr.heap.size by omega))
        have hs1' := (HA2.out.store hm36 1 0 0 0 0).congr (f' := pmT n f (k + 1)) (fun i _ => by have := pmT_step hlt HY.out i; rw [hm.out] at this; exact this)
        have HS1 := Lib.hid hs1'
        have m1 : ¬ w1.heap.size = w.heap.size := by omega
        have m2 : ¬ w1.heap.size = w2.heap.size := by omega
        clear hs1'
        go_wp2_with fail
        go_roundw
        case rel => exact ⟨k + 1, by go_num, by omega, HS1.out, by go_cell, by go_cell, by go_cell, by go_cell, by go_cell, by go_cell, by go_grown, by simp; omega⟩
        case measure => simp [intOf]; omega
    · obtain rfl : k = n := by omega
      have HNW := Lib.hid (hnw.congr (fun i hi => pmT_all hi))
      clear hnw
      go_wp2_with fail
      refine bodyPost_ret (v := .tuple #[.agg #[.int .i64 k, .slice (some ⟨w1.heap.size, 0, none⟩) (k * k) (k * k)], .int .i64 0]) (by simp [results, Try.results36, go_sem, *]) rfl ⟨⟨_, _, rfl, (HNW.out.other (by omega)).other (by omega), by omega, Nat.le_refl _, by omega⟩, by go_grown⟩
end Go.Proofs.Ytjodjfllgofkaaa
