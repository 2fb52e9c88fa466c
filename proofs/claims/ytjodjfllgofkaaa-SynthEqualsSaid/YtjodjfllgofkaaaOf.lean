import Derived.Test.YtjodjfllgofkaaaAq
import Derived.Test.YtjodjfllgofkaaaPdm
import Derived.Deep.RegionLaw
import Derived.IntWalk
import Derived.Deep.QuietTactic
import Derived.BigQuiet
import Derived.Test.YtjodjfllgofkaaaY
import Derived.Deep.DeepCutAuto
import Derived.Deep.RegionHeld3
namespace Go.Proofs.Ytjodjfllgofkaaa
open Go.RowKit Amp
attribute [local go_sem] ix0 ix1 ix2 ix3 jx0 jx1 jx2 jx3
attribute [local go_sem high] run_eqNum run_neNum

/-- A number as a value. -/
def valN (z : Nm) : Value := .agg #[.int .i64 z.v.a, .int .i64 z.v.b, .int .i64 z.v.c, .int .i64 z.v.d, .int .i64 z.k]
theorem new2 (w : World) (o : Obj) (c : Array Value) (t : TypeId) : ((w.alloc o).alloc (.cells c t)).heap[w.heap.size + 1]? = some (.cells c t (0, 0)) := by
  have h := heap_alloc_new (w.alloc o) (Obj.cells c t)
  rwa [show (w.alloc o).heap.size = w.heap.size + 1 by simp] at h
theorem far_frozen {w w' : World} {row : Option Nat} (hg : w.grownBy w' row) {a : Addr} {v : Value} (h : w.cell? a = some v) (hf : w.frozen? a = false) (hne : some a.block ≠ row) : w'.frozen? a = false := (hg.frozen_far a (World.block_lt_of_cell? w _ h) hne).trans hf
theorem one_x (w : World) : Calls Try.prog 87 #[] w fun e w' => e = .returned (.agg #[.int .i64 1, .int .i64 0, .int .i64 0, .int .i64 0, .int .i64 0]) ∧ w.alloc (.cells #[.int .i64 1, .int .i64 0, .int .i64 0, .int .i64 0, .int .i64 0] 63) = w' := by
  go_enter Try.func87, Try.ntmps87
  go_wp2_with fail
  refine bodyPost_ret (v := .agg #[.int .i64 1, .int .i64 0, .int .i64 0, .int .i64 0, .int .i64 0]) (by simp [results, Try.results87, go_sem]) rfl ⟨rfl, rfl⟩
theorem one_any (w : World) : Calls Try.prog 87 #[] w fun e w' => e = .returned (.agg #[.int .i64 1, .int .i64 0, .int .i64 0, .int .i64 0, .int .i64 0]) ∧ Below w.heap.size w w' := by
  go_enter Try.func87, Try.ntmps87
  go_wp2_with fail
  refine bodyPost_ret (v := .agg #[.int .i64 1, .int .i64 0, .int .i64 0, .int .i64 0, .int .i64 0]) (by simp [results, Try.results87, go_sem]) rfl ⟨rfl, by go_grown⟩
theorem none_x (w : World) : Calls Try.prog 81 #[] w fun e w' => e = .returned (.agg #[.int .i64 0, .int .i64 0, .int .i64 0, .int .i64 0, .int .i64 0]) ∧ w.alloc (.cells #[.int .i64 0, .int .i64 0, .int .i64 0, .int .i64 0, .int .i64 0] 63) = w' := by
  go_enter Try.func81, Try.ntmps81
  go_wp2_with fail
  refine bodyPost_ret (v := .agg #[.int .i64 0, .int .i64 0, .int .i64 0, .int .i64 0, .int .i64 0]) (by simp [results, Try.results81, go_sem]) rfl ⟨rfl, rfl⟩
theorem none_any (w : World) : Calls Try.prog 81 #[] w fun e w' => e = .returned (.agg #[.int .i64 0, .int .i64 0, .int .i64 0, .int .i64 0, .int .i64 0]) ∧ Below w.heap.size w w' := by
  go_enter Try.func81, Try.ntmps81
  go_wp2_with fail
  refine bodyPost_ret (v := .agg #[.int .i64 0, .int .i64 0, .int .i64 0, .int .i64 0, .int .i64 0]) (by simp [results, Try.results81, go_sem]) rfl ⟨rfl, by go_grown⟩

set_option maxRecDepth 100000 in
set_option maxHeartbeats 4000000 in
theorem rIdentity3 (n : Nat) (w : World) (h1 : 0 < n) (hn : n ≤ 6) :
    Calls Try.prog 49 #[.int .i64 n] w fun e w' => MatV w.heap.size w' e n (idF n) ∧ Below w.heap.size w w' := by
  obtain ⟨i0, hi, hz0, hz1, hz2⟩ := info_parts infoNum
  have HI := Lib.hid (And.intro hi (And.intro hz0 (And.intro hz1 hz2)))
  clear hi hz0 hz1 hz2
  have hn' : (n : Int) ≤ 6 := by omega
  have hn1 : 0 < (n : Int) := by omega
  have hn2 : ((n : Int) == 0) = false := beq_eq_false_iff_ne.2 (by omega)
  have h36 : n * n ≤ 36 := Nat.mul_le_mul hn hn
  obtain ⟨N, hN⟩ : ∃ N, Hid (n * n = N) := ⟨_, rfl⟩
  have hNi : (n : Int) * (n : Int) = (N : Int) := by rw [← Int.natCast_mul, hN.out]
  have hN36 : (N : Int) ≤ 36 := by have := hN.out; omega
  clear h36
  go_enter Try.func49, Try.ntmps49
  go_wp2_with fail
  go_loopw [4, 10] (fun _ iv wr => ∃ (i : Nat) (lv : Value), iv = .int .i64 i ∧ i ≤ N ∧ wr.cell? ⟨w.heap.size + 1, 1, none⟩ = some lv ∧ wr.cell? ⟨w.heap.size + 1, 0, none⟩ = some (.int .i64 n) ∧ wr.frozen? ⟨w.heap.size + 1, 1, none⟩ = false ∧ wr.cell? ⟨w.heap.size, 0, none⟩ = some (.int .i64 0) ∧ wr.cell? ⟨w.heap.size, 1, none⟩ = some (.slice none 0 0) ∧ wr.frozen? ⟨w.heap.size, 0, none⟩ = false ∧ wr.frozen? ⟨w.heap.size, 1, none⟩ = false ∧ Hid (wr.ownsRow (w.heap.size + 2) 63 5 lv i (rowsOf (idF n) i)) ∧ Below w.heap.size w wr ∧ w.heap.size + 1 < wr.heap.size) (fun _ iv _ => N - (intOf iv).toNat)
  case atStart => exact ⟨0, _, rfl, by omega, by go_cell, by go_cell, by go_cell, by go_cell, by go_cell, by go_cell, by go_cell, Lib.hid (World.ownsRow_nil _ _ _ _), by go_grown, by simp⟩
  case round =>
    obtain ⟨i, lv, rfl, hi, m1, m0, mf, r0, r1, q0, q1, HOW, hbel, hsz⟩ := hrel
    by_cases hlt : i < N
    · have hlt' : (i : Int) < (N : Int) := by omega
      have hsz0 : w.heap.size < wr.heap.size := by omega
      have HWQ : Hid (wrap64 ((i : Int) / (n : Int)) = (i : Int) / (n : Int)) := Lib.hid (by
        have e1 : i / n ≤ i := Nat.div_le_self i n
        rw [← Int.natCast_ediv]
        generalize i / n = q at *
        exact IntWalk.wrap64_in _ (by omega))
      have HNE : Hid (∀ k, k ≤ w.heap.size + 1 → some k ≠ Value.ownBlock lv) := Lib.hid (fun k hk h => by have := (HOW.out.lt k h.symm).1; omega)
      have G0 : Hid (∀ w', Below wr.heap.size wr w' → w'.cell? ⟨w.heap.size + 1, 1, none⟩ = some lv ∧ w'.cell? ⟨w.heap.size + 1, 0, none⟩ = some (.int .i64 n) ∧ w'.frozen? ⟨w.heap.size + 1, 1, none⟩ = false) := Lib.hid (fun w' hb => by
        rw [hb.cell (p := ⟨w.heap.size + 1, 1, none⟩) hsz, hb.cell (p := ⟨w.heap.size + 1, 0, none⟩) hsz, hb.frozen (p := ⟨w.heap.size + 1, 1, none⟩) hsz]
        exact ⟨m1, m0, mf⟩)
      by_cases he : i / n = i % n
      · have heq : ((i : Int) / (n : Int) == (i : Int) % (n : Int)) = true := by
          rw [beq_iff_eq, ← Int.natCast_ediv, ← Int.natCast_emod, he]
        have HID : Hid (idF n i = N1) := Lib.hid (if_pos he)
        go_wp2_with fail
        go_region
        try rw [show wrap64 ((i : Int) / (n : Int)) = (i : Int) / (n : Int) from HWQ.out]
        go_wp2_with fail
        go_region_law ((first
          | (go_simp; go_at_call 87; refine (one_x _).mono ?_; rintro e w' ⟨rfl, rfl⟩)
          | (refine step_append_lies _ (by rfl) _ _ 23 (by rfl) (w.heap.size + 2) 63 i0 _ 5 40 Try.underlying23 HI.out.1 HI.out.2.1 HI.out.2.2.1 HI.out.2.2.2 (by rfl) (by decide) lv i (rowsOf (idF n) i) (by rfl) ((HOW.out.alloc _).alloc _).drew.drew ⟨wr.heap.size + 1, 0, none⟩ 1 1 [.int .i64 1, .int .i64 0, .int .i64 0, .int .i64 0, .int .i64 0] (by rfl) (by rfl) (World.news_of_block (cs := #[.int .i64 1, .int .i64 0, .int .i64 0, .int .i64 0, .int .i64 0]) (t := 63) (fr := (0, 0)) (new2 wr _ _ _)) (by simp [Value.oneCell']) (by omega) (by unfold maxLen; omega) (by omega) (by simp; omega) (wr.heap.size + 1 + 1) (by simp) ?_; intro gg cap' w3 hown' hgrow hat hlt3; have HNB := far_cell hgrow (a := ⟨w.heap.size + 1, 1, none⟩) (v := lv) (by go_cell) (HNE.out _ (Nat.le_refl _)); have HFB := far_frozen hgrow (a := ⟨w.heap.size + 1, 1, none⟩) (v := lv) (by go_cell) (by go_cell) (HNE.out _ (Nat.le_refl _)))))
        all_goals
          have e0 := far_cell hgrow (a := ⟨w.heap.size + 1, 0, none⟩) (v := .int .i64 n) (by go_cell) (HNE.out _ (Nat.le_refl _))
          have e1 := far_cell hgrow (a := ⟨w.heap.size, 0, none⟩) (v := .int .i64 0) (by go_cell) (HNE.out _ (Nat.le_succ _))
          have e2 := far_cell hgrow (a := ⟨w.heap.size, 1, none⟩) (v := .slice none 0 0) (by go_cell) (HNE.out _ (Nat.le_succ _))
          have e3 := far_frozen hgrow (a := ⟨w.heap.size, 0, none⟩) (v := .int .i64 0) (by go_cell) (by go_cell) (HNE.out _ (Nat.le_succ _))
          have e4 := far_frozen hgrow (a := ⟨w.heap.size, 1, none⟩) (v := .slice none 0 0) (by go_cell) (by go_cell) (HNE.out _ (Nat.le_succ _))
          have hrow : rowsOf (idF n) i ++ [.int .i64 1, .int .i64 0, .int .i64 0, .int .i64 0, .int .i64 0] = rowsOf (idF n) (i + 1) := by
            rw [rowsOf, HID.out]; rfl
          rw [hrow] at hown'
          have hltk := HOW.out.lt
          have HB3 : Below w.heap.size w w3 := Below.grown (by go_grown) hgrow (by first | omega | (simp; done) | (simp; omega)) (fun k hk => by have := (hltk k hk).1; omega)
          have HO3 := Lib.hid (ownsRow_setCell_below hown' (a := ⟨w.heap.size + 1, 1, none⟩) (by simp) (.slice (some ⟨gg, 0, none⟩) (i + 1) cap'))
          have hz3 : w.heap.size + 1 < w3.heap.size := World.block_lt_of_cell? w3 _ e0
          clear hown' hgrow hrow hltk
          go_wp2_with fail
          go_roundw
          case rel => exact ⟨i + 1, .slice (some ⟨gg, 0, none⟩) (i + 1) cap', by go_num, by omega, by go_cell, by go_cell, by go_cell, by go_cell, by go_cell, by go_cell, by go_cell, HO3, by go_grown, by simpa using hz3⟩
          case measure => simp [intOf]; omega
      · have heq : ((i : Int) / (n : Int) == (i : Int) % (n : Int)) = false := by
          rw [beq_eq_false_iff_ne, ← Int.natCast_ediv, ← Int.natCast_emod]
          omega
        have HID : Hid (idF n i = N0) := Lib.hid (if_neg he)
        go_wp2_with fail
        go_region
        try rw [show wrap64 ((i : Int) / (n : Int)) = (i : Int) / (n : Int) from HWQ.out]
        go_wp2_with fail
        go_region_law ((first
          | (go_simp; go_at_call 81; refine (none_x _).mono ?_; rintro e w' ⟨rfl, rfl⟩)
          | (refine step_append_lies _ (by rfl) _ _ 23 (by rfl) (w.heap.size + 2) 63 i0 _ 5 40 Try.underlying23 HI.out.1 HI.out.2.1 HI.out.2.2.1 HI.out.2.2.2 (by rfl) (by decide) lv i (rowsOf (idF n) i) (by rfl) ((HOW.out.alloc _).alloc _).drew.drew ⟨wr.heap.size + 1, 0, none⟩ 1 1 [.int .i64 0, .int .i64 0, .int .i64 0, .int .i64 0, .int .i64 0] (by rfl) (by rfl) (World.news_of_block (cs := #[.int .i64 0, .int .i64 0, .int .i64 0, .int .i64 0, .int .i64 0]) (t := 63) (fr := (0, 0)) (new2 wr _ _ _)) (by simp [Value.oneCell']) (by omega) (by unfold maxLen; omega) (by omega) (by simp; omega) (wr.heap.size + 1 + 1) (by simp) ?_; intro gg cap' w3 hown' hgrow hat hlt3; have HNB := far_cell hgrow (a := ⟨w.heap.size + 1, 1, none⟩) (v := lv) (by go_cell) (HNE.out _ (Nat.le_refl _)); have HFB := far_frozen hgrow (a := ⟨w.heap.size + 1, 1, none⟩) (v := lv) (by go_cell) (by go_cell) (HNE.out _ (Nat.le_refl _)))))
        all_goals
          have e0 := far_cell hgrow (a := ⟨w.heap.size + 1, 0, none⟩) (v := .int .i64 n) (by go_cell) (HNE.out _ (Nat.le_refl _))
          have e1 := far_cell hgrow (a := ⟨w.heap.size, 0, none⟩) (v := .int .i64 0) (by go_cell) (HNE.out _ (Nat.le_succ _))
          have e2 := far_cell hgrow (a := ⟨w.heap.size, 1, none⟩) (v := .slice none 0 0) (by go_cell) (HNE.out _ (Nat.le_succ _))
          have e3 := far_frozen hgrow (a := ⟨w.heap.size, 0, none⟩) (v := .int .i64 0) (by go_cell) (by go_cell) (HNE.out _ (Nat.le_succ _))
          have e4 := far_frozen hgrow (a := ⟨w.heap.size, 1, none⟩) (v := .slice none 0 0) (by go_cell) (by go_cell) (HNE.out _ (Nat.le_succ _))
          have hrow : rowsOf (idF n) i ++ [.int .i64 0, .int .i64 0, .int .i64 0, .int .i64 0, .int .i64 0] = rowsOf (idF n) (i + 1) := by
            rw [rowsOf, HID.out]; rfl
          rw [hrow] at hown'
          have hltk := HOW.out.lt
          have HB3 : Below w.heap.size w w3 := Below.grown (by go_grown) hgrow (by first | omega | (simp; done) | (simp; omega)) (fun k hk => by have := (hltk k hk).1; omega)
          have HO3 := Lib.hid (ownsRow_setCell_below hown' (a := ⟨w.heap.size + 1, 1, none⟩) (by simp) (.slice (some ⟨gg, 0, none⟩) (i + 1) cap'))
          have hz3 : w.heap.size + 1 < w3.heap.size := World.block_lt_of_cell? w3 _ e0
          clear hown' hgrow hrow hltk
          go_wp2_with fail
          go_roundw
          case rel => exact ⟨i + 1, .slice (some ⟨gg, 0, none⟩) (i + 1) cap', by go_num, by omega, by go_cell, by go_cell, by go_cell, by go_cell, by go_cell, by go_cell, by go_cell, HO3, by go_grown, by simpa using hz3⟩
          case measure => simp [intOf]; omega
    · obtain rfl : i = N := by omega
      obtain ⟨g, cap, rfl, hgB, hgc, hgm⟩ := own_form HOW.out (by rw [← hN.out]; exact Nat.mul_pos h1 h1)
      have HG := Lib.hid (And.intro hgc hgm)
      have HGB := Lib.hid hgB
      have hsz0 : w.heap.size < wr.heap.size := by omega
      clear hgB hgc hgm
      go_wp2_with fail
      refine bodyPost_ret (v := .agg #[.int .i64 n, .slice (some ⟨g, 0, none⟩) i cap]) (by simp [results, Try.results49, go_sem, *]) rfl ⟨?_, by go_grown⟩
      have hnw : Numw wr g i (idF n) := Numw.of_own HOW.out (fun k hk t ht => rowsOf_get _ hk ht)
      rw [← hN.out] at hnw HG ⊢
      exact ⟨g, cap, rfl, (hnw.other (by have := HGB.out; omega)).other (by have := HGB.out; omega), by have := HGB.out; omega, HG.out.1, HG.out.2⟩
end Go.Proofs.Ytjodjfllgofkaaa

namespace Go.Proofs.Ytjodjfllgofkaaa
open Go.RowKit Amp
attribute [local go_sem] ix0 ix1 ix2 ix3 jx0 jx1 jx2 jx3
attribute [local go_sem high] run_eqNum run_neNum
set_option maxRecDepth 100000 in
set_option maxHeartbeats 4000000 in
theorem placedIn_any (n a s h hcap : Nat) (t : Int) (sm : Nat → Nm) (w : World) (h1 : 0 < n) (hn : n ≤ 6) (hs : 0 < s) (has : a + s ≤ n) (ht : t = (a : Int) + 1) (hsm : Numw w h (s * s) sm) :
    Calls Try.prog 50 #[.int .i64 n, .int .i64 t, .agg #[.int .i64 s, .slice (some ⟨h, 0, none⟩) (s * s) hcap]] w fun e w' => MatV w.heap.size w' e n (sprG n a s sm (s * s)) ∧ Below w.heap.size w w' := by
  have HSM := Lib.hid hsm
  have HT := Lib.hid ht
  have lh : h < w.heap.size := World.block_lt_of_cell? w _ (hsm 0 (Nat.mul_pos hs hs)).1.1
  have hs6 : (s : Int) ≤ 6 := by omega
  clear hsm ht
  go_enter Try.func50, Try.ntmps50
  go_wp2_with fail
  refine (rIdentity3 n _ h1 hn).mono ?_
  rintro e w1 ⟨⟨g, cap, rfl, hnu, hg1, hg2, hg3⟩, hb⟩
  have HN := Lib.hid hnu
  have HG := Lib.hid (And.intro hg2 hg3)
  have hg4 : w.heap.size + 1 < g := by first | omega | (simp at hg1; omega)
  have hg6 : g < w1.heap.size := World.block_lt_of_cell? w1 _ (hnu 0 (Nat.mul_pos h1 h1)).1.1
  clear hnu hg1 hg2 hg3
  obtain ⟨ka1, kb1⟩ := bcell hb
  have c1_0_0 : w1.cell? ⟨w.heap.size, 0, none⟩ = some (.int .i64 s) := (ka1 _ _ (by first | omega | (simp; done) | (simp; omega))).trans (by go_cell)
  have c1_0_1 : w1.cell? ⟨w.heap.size, 1, none⟩ = some (.slice (some ⟨h, 0, none⟩) (s * s) hcap) := (ka1 _ _ (by first | omega | (simp; done) | (simp; omega))).trans (by go_cell)
  have c1_1_0 : w1.cell? ⟨w.heap.size + 1, 0, none⟩ = some (.int .i64 0) := (ka1 _ _ (by first | omega | (simp; done) | (simp; omega))).trans (by go_cell)
  have f1_1_0 : w1.frozen? ⟨w.heap.size + 1, 0, none⟩ = false := (kb1 _ _ (by first | omega | (simp; done) | (simp; omega))).trans (by go_cell)
  have c1_1_1 : w1.cell? ⟨w.heap.size + 1, 1, none⟩ = some (.slice none 0 0) := (ka1 _ _ (by first | omega | (simp; done) | (simp; omega))).trans (by go_cell)
  have f1_1_1 : w1.frozen? ⟨w.heap.size + 1, 1, none⟩ = false := (kb1 _ _ (by first | omega | (simp; done) | (simp; omega))).trans (by go_cell)
  have D1 : Below w.heap.size w w1 := Below.trans (by go_grown) (hb.mono (by first | omega | (simp; done) | (simp; omega)))
  have s1_0 : w.heap.size < w1.heap.size := by have hs := hb.size; (try simp at hs); omega
  have s1_1 : w.heap.size + 1 < w1.heap.size := by have hs := hb.size; (try simp at hs); omega
  clear hb ka1 kb1
  go_wp2_with fail
  go_loopw [8, 9, 14, 19] (fun _ _ iv _ wr => ∃ (i : Nat), iv = .int .i64 i ∧ i ≤ s ∧ Numw wr g (n * n) (sprG n a s sm (i * s)) ∧ SprF w w1 g h n s cap hcap wr ∧ Below w.heap.size w wr) (fun _ _ iv _ _ => s - (intOf iv).toNat)
  case atStart => exact ⟨0, rfl, by omega, by rw [Nat.zero_mul, sprG_zero]; exact HN.out.alloc _, ⟨by go_cell, by go_cell, by go_cell, by go_cell, by go_cell, by go_cell, by go_cell, by go_cell, by simp⟩, by go_grown⟩
  case round =>
    obtain ⟨i, rfl, hi, hnu, hfr, hbel⟩ := hrel
    have HN1 := Lib.hid hnu
    have HF1 := Lib.hid hfr
    have HB1 := Lib.hid hbel
    clear hnu hfr hbel
    obtain ⟨wo, rfl⟩ : ∃ wo : World, wo = wr := ⟨_, rfl⟩
    by_cases hlt : i < s
    · have hlt' : (i : Int) < (s : Int) := by omega
      obtain ⟨a0, a1, a2, a3, a4, a5, a6, a7, a8⟩ := HF1.out
      have HA8 := Lib.hid a8
      clear a8
      go_wp2_with fail
      go_loopw [9, 19] (fun _ jv wr => ∃ (j : Nat), jv = .int .i64 j ∧ j ≤ s ∧ Numw wr g (n * n) (sprG n a s sm (i * s + j)) ∧ SprF w w1 g h n s cap hcap wr ∧ Below w.heap.size w wr) (fun _ jv _ => s - (intOf jv).toNat)
      case atStart => exact ⟨0, rfl, by omega, HN1.out, HF1.out, HB1.out⟩
      case round =>
        clear a0 a1 a2 a3 a4 a5 a6 a7
        obtain ⟨j, rfl, hj, hnu, hfr, hbel⟩ := hrel
        by_cases hjt : j < s
        · have hjt' : (j : Int) < (s : Int) := by omega
          obtain ⟨r, hr⟩ : ∃ r, Hid (a + i = r) := ⟨_, rfl⟩
          obtain ⟨p, hp⟩ : ∃ p, Hid (r * n = p) := ⟨_, rfl⟩
          obtain ⟨q, hq⟩ : ∃ q, Hid (p + a = q) := ⟨_, rfl⟩
          obtain ⟨m, hm⟩ : ∃ m, Hid (q + j = m) := ⟨_, rfl⟩
          obtain ⟨c, hc⟩ : ∃ c, Hid (i * s = c) := ⟨_, rfl⟩
          obtain ⟨d, hd⟩ : ∃ d, Hid (c + j = d) := ⟨_, rfl⟩
          obtain ⟨U, hU⟩ : ∃ U : Int, Hid ((p : Int) + t = U) := ⟨_, rfl⟩
          have hrn : r + 1 ≤ n := by have := hr.out; omega
          have hmn : m < n * n := by
            have e1 : (r + 1) * n ≤ n * n := Nat.mul_le_mul_right n hrn
            rw [Nat.succ_mul, hp.out] at e1
            have := hq.out; have := hm.out; have := hr.out
            omega
          have hds : d < s * s := by
            have e1 : (i + 1) * s ≤ s * s := Nat.mul_le_mul_right s (by omega)
            rw [Nat.succ_mul, hc.out] at e1
            have := hd.out
            omega
          have h36 : n * n ≤ 36 := Nat.mul_le_mul hn hn
          have hs36 : s * s ≤ 36 := Nat.mul_le_mul (show s ≤ 6 by omega) (show s ≤ 6 by omega)
          have hp36 : p ≤ 36 := by
            have e1 : r * n ≤ n * n := Nat.mul_le_mul_right n (by omega)
            rw [hp.out] at e1; omega
          have hc36 : c ≤ 36 := by
            have e1 : i * s ≤ s * s := Nat.mul_le_mul_right s (by omega)
            rw [hc.out] at e1; omega
          have HM : Hid ((a + i) * n + a + j = m ∧ i * s + j = d) := Lib.hid ⟨by rw [hr.out, hp.out, hq.out, hm.out], by rw [hc.out, hd.out]⟩
          obtain ⟨x0, x1, x2, x3, x4, xe, HX⟩ := res5 (sm d, 0)
          have HZ : Hid (sm d = ⟨⟨x0, x1, x2, x3⟩, x4⟩) := Lib.hid (congrArg Prod.fst HX.out)
          have hsz := (HSM.out d hds).1.keep hbel lh
          rw [HZ.out] at hsz
          obtain ⟨c0, c1, c2, c3, c4⟩ := hsz
          obtain ⟨⟨b0, b1, b2, b3, b4⟩, f0, f1, f2, f3, f4⟩ := hnu m hmn
          obtain ⟨a0, a1, a2, a3, a4, a5, a6, a7, a8⟩ := hfr
          have n1 : ¬ g = w.heap.size := by omega
          have n2 : ¬ g = w1.heap.size := by omega
          have n3 : ¬ g = h := by omega
          have n4 : ¬ g = w.heap.size + 1 := by omega
          have m0 : (0 : Int) ≤ (m : Int) := by omega
          have m1 : (m : Int) < ((n * n : Nat) : Int) := by omega
          have m2 : (m : Int) < (n : Int) * (n : Int) := by rw [← Int.natCast_mul]; omega
          have d0 : (0 : Int) ≤ (d : Int) := by omega
          have d1 : (d : Int) < ((s * s : Nat) : Int) := by omega
          have d2 : (d : Int) < (s : Int) * (s : Int) := by rw [← Int.natCast_mul]; omega
          have HN2 := Lib.hid hnu
          have HF2 := Lib.hid (show SprF w w1 g h n s cap hcap wr from ⟨a0, a1, a2, a3, a4, a5, a6, a7, a8⟩)
          have HB2 := Lib.hid hbel
          have hw1 : IntKind.i64.wrap (t - 1) = (a : Int) := by rw [HT.out, Int.add_sub_cancel]; exact IntWalk.i64_in _ (by omega)
          have hw2 : IntKind.i64.wrap ((a : Int) + (i : Int)) = (r : Int) := by rw [← hr.out, Int.natCast_add]; exact IntWalk.i64_in _ (by omega)
          have hw3 : IntKind.i64.wrap ((r : Int) * (n : Int)) = (p : Int) := by rw [← Int.natCast_mul, hp.out]; exact IntWalk.i64_in _ (by omega)
          have hw4 : IntKind.i64.wrap ((p : Int) + t) = U := by rw [hU.out]; exact IntWalk.i64_in _ (by have := hU.out; have := HT.out; omega)
          have hw5 : IntKind.i64.wrap (U - 1) = (q : Int) := by rw [show U - 1 = (q : Int) by have := hU.out; have := HT.out; have := hq.out; omega]; exact IntWalk.i64_in _ (by have := hq.out; omega)
          have hw6 : IntKind.i64.wrap ((q : Int) + (j : Int)) = (m : Int) := by rw [← hm.out, Int.natCast_add]; exact IntWalk.i64_in _ (by have := hq.out; omega)
          have hw7 : IntKind.i64.wrap ((i : Int) * (s : Int)) = (c : Int) := by rw [← Int.natCast_mul, hc.out]; exact IntWalk.i64_in _ (by omega)
          have hw8 : IntKind.i64.wrap ((c : Int) + (j : Int)) = (d : Int) := by rw [← hd.out, Int.natCast_add]; exact IntWalk.i64_in _ (by omega)
          have HA8 := Lib.hid a8
          clear hnu hbel a8 h36 hs36 hp36 hc36 hrn
          have HE : Hid (updN (sprG n a s sm (i * s + j)) m ⟨⟨x0, x1, x2, x3⟩, x4⟩ = sprG n a s sm (i * s + (j + 1))) := Lib.hid (by rw [← HZ.out, ← HM.out.2, ← HM.out.1]; exact sprG_step sm hlt hjt has)
          go_upto_region 8 with fail
          go_region_held3 (fun w' => w'.cell? ⟨w.heap.size, 0, none⟩ = some (.int .i64 s) ∧ w'.cell? ⟨w.heap.size, 1, none⟩ = some (.slice (some ⟨h, 0, none⟩) (s * s) hcap) ∧ w'.cell? ⟨w1.heap.size, 1, none⟩ = some (.slice (some ⟨g, 0, none⟩) (n * n) cap) ∧ w'.cell? ⟨h, d * 5, none⟩ = some (.int .i64 x0) ∧ w'.cell? ⟨h, d * 5 + 1, none⟩ = some (.int .i64 x1) ∧ w'.cell? ⟨h, d * 5 + 2, none⟩ = some (.int .i64 x2) ∧ w'.cell? ⟨h, d * 5 + 3, none⟩ = some (.int .i64 x3) ∧ w'.cell? ⟨h, d * 5 + 4, none⟩ = some (.int .i64 x4)) (go_keep) (fail)
          clear hw1 hw2 hw3 hw4 hw5 hw6 hw7 hw8
          go_wp2_with fail
          go_roundw
          case rel =>
            refine ⟨j + 1, by go_num, by omega, ?_, ⟨?_, ?_, ?_, ?_, ?_, ?_, ?_, ?_, ?_⟩, ?_⟩
            · rw [← HE.out]; exact (HN2.out.store hmn x0 x1 x2 x3 x4).drew
            · go_cell
            · go_cell
            · go_cell
            · go_cell
            · go_cell
            · go_cell
            · go_cell
            · go_cell
            · simpa using HA8.out
            · have hbel := HB2.out
              have hg5 : w.heap.size ≤ g := by omega
              go_grown
          case measure => simp [intOf]; omega
        · obtain rfl : j = s := by omega
          have HN2 := Lib.hid hnu
          have HF2 := Lib.hid hfr
          have HB2 := Lib.hid hbel
          clear hnu hfr hbel
          go_wp2_with fail
          go_roundw
          case rel => exact ⟨i + 1, by go_num, by omega, by rw [Nat.succ_mul]; exact HN2.out, HF2.out, HB2.out⟩
          case measure => simp [intOf]; omega
    · obtain rfl : i = s := by omega
      obtain ⟨a0, a1, a2, a3, a4, a5, a6, a7, a8⟩ := HF1.out
      have s1 : w.heap.size + 1 < wo.heap.size := by omega
      have n4 : ¬ w.heap.size + 1 = g := by omega
      have hbel := HB1.out
      have HA8 := Lib.hid a8
      clear a8
      go_wp2_with fail
      refine bodyPost_ret (v := .agg #[.int .i64 n, .slice (some ⟨g, 0, none⟩) (n * n) cap]) (by simp [results, Try.results50, go_sem, *]) rfl ⟨⟨g, cap, rfl, ?_, by omega, HG.out.1, HG.out.2⟩, by go_grown⟩
      exact (HN1.out.other n4).other n4
end Go.Proofs.Ytjodjfllgofkaaa

namespace Amp
theorem turn_one (k : Nat) (h : k < 8) : (setS ⟨⟨1, 0, 0, 0⟩, 0⟩ (rotn k ⟨1, 0, 0, 0⟩)).1 = (chgS N1 (fun v => rotn k v)).1 := by
  rcases (show k = 0 ∨ k = 1 ∨ k = 2 ∨ k = 3 ∨ k = 4 ∨ k = 5 ∨ k = 6 ∨ k = 7 by omega) with rfl | rfl | rfl | rfl | rfl | rfl | rfl | rfl <;> decide
end Amp
namespace Go.Proofs.Ytjodjfllgofkaaa
open Go.RowKit Amp
attribute [local go_sem] ix0 ix1 ix2 ix3 jx0 jx1 jx2 jx3
attribute [local go_sem high] run_eqNum run_neNum

set_option maxHeartbeats 2000000 in
theorem of_couple (at' m : Int) (nm : ByteArray) (w : World) :
    Calls Try.prog 51 #[.agg #[.int .i64 2, .int .i64 at', .int .i64 m, .string nm]] w fun e w' => OwnIs w.heap.size w' e (ownS ⟨2, at', m, nm⟩) (ownF ⟨2, at', m, nm⟩) ∧ Below w.heap.size w w' := by
  go_enter Try.func51, Try.ntmps51
  go_wp2_with fail
  refine bodyPost_ret (v := .agg #[.int .i64 2, .slice (some ⟨w.heap.size + 1 + 1 + 1 + 1, 0, none⟩) 4 4]) (by simp [results, Try.results51, go_sem]) rfl ⟨⟨w.heap.size + 1 + 1 + 1 + 1, rfl, ?_, by omega⟩, by go_grown⟩
  · show Numw _ _ 4 _
    intro i hi
    rcases (show i = 0 ∨ i = 1 ∨ i = 2 ∨ i = 3 by have : i < 4 := hi; omega) with rfl | rfl | rfl | rfl
    · rw [show ownF ⟨2, at', m, nm⟩ 0 = ⟨⟨1, 0, 0, 0⟩, 1⟩ from rfl]
      refine ⟨⟨?_, ?_, ?_, ?_, ?_⟩, ?_, ?_, ?_, ?_, ?_⟩ <;> go_cell
    · rw [show ownF ⟨2, at', m, nm⟩ 1 = ⟨⟨0, 0, 1, 0⟩, 1⟩ from rfl]
      refine ⟨⟨?_, ?_, ?_, ?_, ?_⟩, ?_, ?_, ?_, ?_, ?_⟩ <;> go_cell
    · rw [show ownF ⟨2, at', m, nm⟩ 2 = ⟨⟨0, 0, 1, 0⟩, 1⟩ from rfl]
      refine ⟨⟨?_, ?_, ?_, ?_, ?_⟩, ?_, ?_, ?_, ?_, ?_⟩ <;> go_cell
    · rw [show ownF ⟨2, at', m, nm⟩ 3 = ⟨⟨1, 0, 0, 0⟩, 1⟩ from rfl]
      refine ⟨⟨?_, ?_, ?_, ?_, ?_⟩, ?_, ?_, ?_, ?_, ?_⟩ <;> go_cell

set_option maxHeartbeats 2000000 in
theorem of_cross (at' m : Int) (nm : ByteArray) (w : World) :
    Calls Try.prog 51 #[.agg #[.int .i64 3, .int .i64 at', .int .i64 m, .string nm]] w fun e w' => OwnIs w.heap.size w' e (ownS ⟨3, at', m, nm⟩) (ownF ⟨3, at', m, nm⟩) ∧ Below w.heap.size w w' := by
  go_enter Try.func51, Try.ntmps51
  go_wp2_with fail
  refine (none_x _).mono ?_
  rintro e w' ⟨rfl, rfl⟩
  go_wp2_with fail
  refine (one_x _).mono ?_
  rintro e w' ⟨rfl, rfl⟩
  go_wp2_with fail
  refine (one_x _).mono ?_
  rintro e w' ⟨rfl, rfl⟩
  go_wp2_with fail
  refine (none_x _).mono ?_
  rintro e w' ⟨rfl, rfl⟩
  go_wp2_with fail
  refine bodyPost_ret (v := .agg #[.int .i64 2, .slice (some ⟨w.heap.size + 1 + 1 + 1 + 1 + 1 + 1 + 1 + 1, 0, none⟩) 4 4]) (by simp [results, Try.results51, go_sem]) rfl ⟨⟨w.heap.size + 1 + 1 + 1 + 1 + 1 + 1 + 1 + 1, rfl, ?_, by omega⟩, by go_grown⟩
  · show Numw _ _ 4 _
    intro i hi
    rcases (show i = 0 ∨ i = 1 ∨ i = 2 ∨ i = 3 by have : i < 4 := hi; omega) with rfl | rfl | rfl | rfl
    · rw [show ownF ⟨3, at', m, nm⟩ 0 = ⟨⟨0, 0, 0, 0⟩, 0⟩ from rfl]
      refine ⟨⟨?_, ?_, ?_, ?_, ?_⟩, ?_, ?_, ?_, ?_, ?_⟩ <;> go_cell
    · rw [show ownF ⟨3, at', m, nm⟩ 1 = ⟨⟨1, 0, 0, 0⟩, 0⟩ from rfl]
      refine ⟨⟨?_, ?_, ?_, ?_, ?_⟩, ?_, ?_, ?_, ?_, ?_⟩ <;> go_cell
    · rw [show ownF ⟨3, at', m, nm⟩ 2 = ⟨⟨1, 0, 0, 0⟩, 0⟩ from rfl]
      refine ⟨⟨?_, ?_, ?_, ?_, ?_⟩, ?_, ?_, ?_, ?_, ?_⟩ <;> go_cell
    · rw [show ownF ⟨3, at', m, nm⟩ 3 = ⟨⟨0, 0, 0, 0⟩, 0⟩ from rfl]
      refine ⟨⟨?_, ?_, ?_, ?_, ?_⟩, ?_, ?_, ?_, ?_, ?_⟩ <;> go_cell

set_option maxHeartbeats 2000000 in
theorem of_phase (at' m : Int) (nm : ByteArray) (w : World) :
    Calls Try.prog 51 #[.agg #[.int .i64 1, .int .i64 at', .int .i64 m, .string nm]] w fun e w' => OwnIs w.heap.size w' e (ownS ⟨1, at', m, nm⟩) (ownF ⟨1, at', m, nm⟩) ∧ Below w.heap.size w w' := by
  go_enter Try.func51, Try.ntmps51
  go_wp2_with fail
  have hb0 : Below w.heap.size w ((((w.alloc (Obj.cells #[.int .i64 1, .int .i64 at', .int .i64 m, .string nm] 68)).alloc (Obj.cells #[.int .i64 0, .slice none 0 0] 26)).alloc (Obj.cells #[.int .i64 1, .int .i64 0, .int .i64 0, .int .i64 0, .int .i64 1] 63)).alloc (Obj.cells #[.int .i64 0, .int .i64 0, .int .i64 1, .int .i64 0, .int .i64 1] 63)) := by go_grown
  have hs0 : ((((w.alloc (Obj.cells #[.int .i64 1, .int .i64 at', .int .i64 m, .string nm] 68)).alloc (Obj.cells #[.int .i64 0, .slice none 0 0] 26)).alloc (Obj.cells #[.int .i64 1, .int .i64 0, .int .i64 0, .int .i64 0, .int .i64 1] 63)).alloc (Obj.cells #[.int .i64 0, .int .i64 0, .int .i64 1, .int .i64 0, .int .i64 1] 63)).cell? ⟨w.heap.size, 2, none⟩ = some (.int .i64 m) := by go_cell
  have hr0 : ((((w.alloc (Obj.cells #[.int .i64 1, .int .i64 at', .int .i64 m, .string nm] 68)).alloc (Obj.cells #[.int .i64 0, .slice none 0 0] 26)).alloc (Obj.cells #[.int .i64 1, .int .i64 0, .int .i64 0, .int .i64 0, .int .i64 1] 63)).alloc (Obj.cells #[.int .i64 0, .int .i64 0, .int .i64 1, .int .i64 0, .int .i64 1] 63)).cell? ⟨w.heap.size + 1, 0, none⟩ = some (.int .i64 0) ∧ ((((w.alloc (Obj.cells #[.int .i64 1, .int .i64 at', .int .i64 m, .string nm] 68)).alloc (Obj.cells #[.int .i64 0, .slice none 0 0] 26)).alloc (Obj.cells #[.int .i64 1, .int .i64 0, .int .i64 0, .int .i64 0, .int .i64 1] 63)).alloc (Obj.cells #[.int .i64 0, .int .i64 0, .int .i64 1, .int .i64 0, .int .i64 1] 63)).cell? ⟨w.heap.size + 1, 1, none⟩ = some (.slice none 0 0) ∧ ((((w.alloc (Obj.cells #[.int .i64 1, .int .i64 at', .int .i64 m, .string nm] 68)).alloc (Obj.cells #[.int .i64 0, .slice none 0 0] 26)).alloc (Obj.cells #[.int .i64 1, .int .i64 0, .int .i64 0, .int .i64 0, .int .i64 1] 63)).alloc (Obj.cells #[.int .i64 0, .int .i64 0, .int .i64 1, .int .i64 0, .int .i64 1] 63)).frozen? ⟨w.heap.size + 1, 0, none⟩ = false ∧ ((((w.alloc (Obj.cells #[.int .i64 1, .int .i64 at', .int .i64 m, .string nm] 68)).alloc (Obj.cells #[.int .i64 0, .slice none 0 0] 26)).alloc (Obj.cells #[.int .i64 1, .int .i64 0, .int .i64 0, .int .i64 0, .int .i64 1] 63)).alloc (Obj.cells #[.int .i64 0, .int .i64 0, .int .i64 1, .int .i64 0, .int .i64 1] 63)).frozen? ⟨w.heap.size + 1, 1, none⟩ = false := ⟨by go_cell, by go_cell, by go_cell, by go_cell⟩
  have hsz : w.heap.size + 1 < ((((w.alloc (Obj.cells #[.int .i64 1, .int .i64 at', .int .i64 m, .string nm] 68)).alloc (Obj.cells #[.int .i64 0, .slice none 0 0] 26)).alloc (Obj.cells #[.int .i64 1, .int .i64 0, .int .i64 0, .int .i64 0, .int .i64 1] 63)).alloc (Obj.cells #[.int .i64 0, .int .i64 0, .int .i64 1, .int .i64 0, .int .i64 1] 63)).heap.size := by simp
  generalize ((((w.alloc (Obj.cells #[.int .i64 1, .int .i64 at', .int .i64 m, .string nm] 68)).alloc (Obj.cells #[.int .i64 0, .slice none 0 0] 26)).alloc (Obj.cells #[.int .i64 1, .int .i64 0, .int .i64 0, .int .i64 0, .int .i64 1] 63)).alloc (Obj.cells #[.int .i64 0, .int .i64 0, .int .i64 1, .int .i64 0, .int .i64 1] 63)) = W at *
  have hsz0 : w.heap.size < W.heap.size := by omega
  obtain ⟨x0, x1, x2, x3, x4, xe, HM⟩ := res5 (setS ⟨⟨1, 0, 0, 0⟩, 0⟩ (rotn (m % 8).toNat ⟨1, 0, 0, 0⟩))
  have G0 : Hid (∀ w', Below W.heap.size W w' → w'.cell? ⟨w.heap.size, 2, none⟩ = some (.int .i64 m)) := Lib.hid (fun w' hb => (hb.cell (p := ⟨w.heap.size, 2, none⟩) hsz0).trans hs0)
  have HR0 := Lib.hid hr0
  have HB0 := Lib.hid hb0
  clear hr0 hb0
  go_cut [5, 6] (fun pv ev wx => ∃ n8, pv = .pointer (some ⟨n8, 0, none⟩) ∧ ev = .int .i64 xe ∧ W.heap.size ≤ n8 ∧ n8 < wx.heap.size ∧ Has5 wx n8 x0 x1 x2 x3 x4 ∧ Below W.heap.size W wx)
  case first =>
    go_region_held3 (fun w' => w'.cell? ⟨w.heap.size, 2, none⟩ = some (.int .i64 m))
      ((first | (refine G0.out _ ?_; go_grown; done) | go_keep))
      ((first
        | (go_at_call 87; refine (one_any _).mono ?_; rintro e wA ⟨rfl, hb⟩; have HD : Below W.heap.size W wA := (Below.trans (by first | exact Below.refl _ _ | go_grown) (hb.mono (by first | omega | (simp; done) | (simp; omega)))); have hzA := HD.size; (try (refine with_keep5 (n := W.heap.size) (a := 0) (b := 0) (c := 0) (d := 0) (k := 0) hb ?_ ?_ ?_; (refine ⟨⟨?_, ?_, ?_, ?_, ?_⟩, ?_, ?_, ?_, ?_, ?_⟩ <;> go_cell); (focus (first | omega | (simp; done) | (simp; omega))); rintro ⟨⟨_, _, _, _, _⟩, _, _, _, _, _⟩; have hb8 := hb.size; (try simp at hb8))); (try (refine with_keep5 (n := wA.heap.size) (a := 0) (b := 0) (c := 0) (d := 0) (k := 0) hb ?_ ?_ ?_; (refine ⟨⟨?_, ?_, ?_, ?_, ?_⟩, ?_, ?_, ?_, ?_, ?_⟩ <;> go_cell); (focus (first | omega | (simp; done) | (simp; omega))); rintro ⟨⟨_, _, _, _, _⟩, _, _, _, _, _⟩; have hb9 := hb.size; (try simp at hb9))); clear hb)
        | (go_at_call 88; refine (rTurn_any _ _ _ _ _ _ _).mono ?_; rintro e wB ⟨rfl, hb⟩; rw [HM.out]; unfold Ret5; (try simp only); have HD : Below W.heap.size W wB := (Below.trans (by first | exact Below.refl _ _ | go_grown) (hb.mono (by first | omega | (simp; done) | (simp; omega)))); have hzB := HD.size; (try (refine with_keep5 (n := W.heap.size) (a := 0) (b := 0) (c := 0) (d := 0) (k := 0) hb ?_ ?_ ?_; (refine ⟨⟨?_, ?_, ?_, ?_, ?_⟩, ?_, ?_, ?_, ?_, ?_⟩ <;> go_cell); (focus (first | omega | (simp; done) | (simp; omega))); rintro ⟨⟨_, _, _, _, _⟩, _, _, _, _, _⟩; have hb8 := hb.size; (try simp at hb8))); (try (refine with_keep5 (n := wA.heap.size) (a := 0) (b := 0) (c := 0) (d := 0) (k := 0) hb ?_ ?_ ?_; (refine ⟨⟨?_, ?_, ?_, ?_, ?_⟩, ?_, ?_, ?_, ?_, ?_⟩ <;> go_cell); (focus (first | omega | (simp; done) | (simp; omega))); rintro ⟨⟨_, _, _, _, _⟩, _, _, _, _, _⟩; have hb9 := hb.size; (try simp at hb9))); clear hb)))
    all_goals
      go_wp2_with fail
      go_meet
      refine ⟨_, rfl, rfl, ?_, ?_, ?_, ?_⟩
      · first | omega | (simp; done) | (simp; omega)
      · first | omega | (simp; done) | (simp; omega)
      · refine ⟨⟨?_, ?_, ?_, ?_, ?_⟩, ?_, ?_, ?_, ?_, ?_⟩ <;> go_cell
      · go_grown
  case rest =>
    obtain ⟨n8, rfl, rfl, hn8, hl8, h5, hD8⟩ := hcut
    obtain ⟨⟨y0, y1, y2, y3, y4⟩, _⟩ := h5
    have DD := HB0.out.trans (hD8.mono (show w.heap.size ≤ W.heap.size by omega))
    obtain ⟨r0, r1, q0, q1⟩ := HR0.out
    have r0' := (hD8.cell (p := ⟨w.heap.size + 1, 0, none⟩) hsz).trans r0
    have r1' := (hD8.cell (p := ⟨w.heap.size + 1, 1, none⟩) hsz).trans r1
    have q0' := (hD8.frozen (p := ⟨w.heap.size + 1, 0, none⟩) hsz).trans q0
    have q1' := (hD8.frozen (p := ⟨w.heap.size + 1, 1, none⟩) hsz).trans q1
    have hszc := hD8.size
    have l1 : w.heap.size + 1 < wc.heap.size := by omega
    have l2 : w.heap.size < wc.heap.size := by omega
    clear hD8 r0 r1 q0 q1 hs0
    go_wp2_with fail
    refine bodyPost_ret (v := .agg #[.int .i64 1, .slice (some ⟨wc.heap.size, 0, none⟩) 1 1]) (by simp [results, Try.results51, go_sem, *]) rfl ⟨⟨wc.heap.size, rfl, ?_, by omega⟩, by go_grown⟩
    refine Numw.of1 (a := x0) (b := x1) (c := x2) (d := x3) (k := x4) (by refine ⟨⟨?_, ?_, ?_, ?_, ?_⟩, ?_, ?_, ?_, ?_, ?_⟩ <;> go_cell) ?_
    show (chgS N1 (fun v => rotn (m % 8).toNat v)).1 = _
    rw [← turn_one _ (by omega)]
    exact congrArg Prod.fst HM.out

theorem of_any (k at' m : Int) (nm : ByteArray) (w : World) (h : k = 1 ∨ k = 2 ∨ k = 3) :
    Calls Try.prog 51 #[.agg #[.int .i64 k, .int .i64 at', .int .i64 m, .string nm]] w fun e w' => OwnIs w.heap.size w' e (ownS ⟨k, at', m, nm⟩) (ownF ⟨k, at', m, nm⟩) ∧ Below w.heap.size w w' := by
  rcases h with rfl | rfl | rfl
  · exact of_phase at' m nm w
  · exact of_couple at' m nm w
  · exact of_cross at' m nm w
end Go.Proofs.Ytjodjfllgofkaaa
