import Derived.Test.YtjodjfllgofkaaaRo
import Derived.Deep.AppendLies
namespace Go.Proofs.Ytjodjfllgofkaaa
open Go.RowKit Amp
attribute [local go_sem] ix0 ix1 ix2 ix3 jx0 jx1 jx2 jx3
attribute [local go_sem high] run_eqNum run_neNum
theorem far_cell {w w' : World} {row : Option Nat} (hg : w.grownBy w' row) {a : Addr} {v : Value} (h : w.cell? a = some v) (hne : some a.block ≠ row) : w'.cell? a = some v := (hg.cell_far a (World.block_lt_of_cell? w _ h) hne).trans h

set_option maxRecDepth 100000 in
set_option maxHeartbeats 4000000 in
theorem column_any (n j g cap : Nat) (f : Nat → Nm) (w : World) (hn : n ≤ 6) (hj : j < n) (hc : Numw w g (n * n) f) :
    Calls Try.prog 121 #[.agg #[.int .i64 n, .slice (some ⟨g, 0, none⟩) (n * n) cap], .int .i64 j] w fun e w' => (∃ bo dap, e = .returned (.slice bo n dap) ∧ Nums w' bo n (fun i => f (i * n + j))) ∧ Below w.heap.size w w' := by
  have HC := Lib.hid hc
  have lb : g < w.heap.size := World.block_lt_of_cell? w _ (hc 0 (by have := Nat.mul_pos (show 0 < n by omega) (show 0 < n by omega); omega)).1.1
  clear hc
  obtain ⟨i0, hi, hz0, hz1, hz2⟩ := info_parts infoNum
  have HI := Lib.hid (And.intro hi (And.intro hz0 (And.intro hz1 hz2)))
  clear hi hz0 hz1 hz2
  have hn' : (n : Int) ≤ 6 := by omega
  go_enter Try.func121, Try.ntmps121
  go_wp2_with fail
  obtain ⟨FF, hFF⟩ : ∃ FF : Nat → Nm, Hid (FF = fun i => f (i * n + j)) := ⟨_, rfl⟩
  go_loopw [5, 6, 10] (fun lv _ iv wr => ∃ (i : Nat), iv = .int .i64 i ∧ i ≤ n ∧ wr.ownsRow (w.heap.size + 1) 63 5 lv i (rowsOf FF i) ∧ Below (w.heap.size + 1) (w.alloc (.cells #[.int .i64 n, .slice (some ⟨g, 0, none⟩) (n * n) cap] 115)) wr) (fun _ _ iv _ => n - (intOf iv).toNat)
  case atStart => exact ⟨0, rfl, by omega, World.ownsRow_nil _ _ _ _, Below.refl _ _⟩
  case round =>
    obtain ⟨i, rfl, hi, hown, hbel⟩ := hrel
    have hsz := hbel.size
    have hz0 : w.heap.size < wr.heap.size := by simp at hsz; omega
    have m0 : wr.cell? ⟨w.heap.size, 0, none⟩ = some (.int .i64 n) := (hbel.cell (p := ⟨w.heap.size, 0, none⟩) (by simp)).trans (by go_cell)
    have m1 : wr.cell? ⟨w.heap.size, 1, none⟩ = some (.slice (some ⟨g, 0, none⟩) (n * n) cap) := (hbel.cell (p := ⟨w.heap.size, 1, none⟩) (by simp)).trans (by go_cell)
    by_cases hlt : i < n
    · have hlt' : (i : Int) < (n : Int) := by omega
      have hm : i * n + j < n * n := by
        have h1 : (i + 1) * n ≤ n * n := Nat.mul_le_mul_right n (by omega)
        rw [Nat.succ_mul] at h1
        omega
      have h36 : n * n ≤ 36 := Nat.mul_le_mul hn hn
      obtain ⟨m, hme⟩ : ∃ m, Hid (i * n + j = m) := ⟨_, rfl⟩
      have hm' : m < n * n := by rw [← hme.out]; exact hm
      have hmi2 : (m : Int) < (n : Int) * (n : Int) := by rw [← Int.natCast_mul]; omega
      have hmi3 : (m : Int) < (n * n : Nat) := by omega
      have hm0 : (0 : Int) ≤ (m : Int) := by omega
      obtain ⟨x0, x1, x2, x3, x4, xe, HM⟩ := res5 (f m, 0)
      have HZ : Hid (FF i = ⟨⟨x0, x1, x2, x3⟩, x4⟩) := Lib.hid (by rw [hFF.out]; show f (i * n + j) = _; rw [hme.out]; exact congrArg Prod.fst HM.out)
      have hz := (HC.out m hm').1
      rw [show f m = ⟨⟨x0, x1, x2, x3⟩, x4⟩ from congrArg Prod.fst HM.out] at hz
      have HB0 := below_base hbel ((Below.refl _ _).alloc (Nat.le_refl _) _)
      have hz' := hz.keep HB0 lb
      obtain ⟨c0, c1, c2, c3, c4⟩ := hz'
      have lb' : g < wr.heap.size := Nat.lt_trans lb hz0
      have V0 : ∀ w', Below wr.heap.size wr w' → w'.cell? ⟨w.heap.size, 0, none⟩ = some (.int .i64 n) ∧ w'.cell? ⟨w.heap.size, 1, none⟩ = some (.slice (some ⟨g, 0, none⟩) (n * n) cap) ∧ w'.cell? ⟨g, m * 5, none⟩ = some (.int .i64 x0) ∧ w'.cell? ⟨g, m * 5 + 1, none⟩ = some (.int .i64 x1) ∧ w'.cell? ⟨g, m * 5 + 2, none⟩ = some (.int .i64 x2) ∧ w'.cell? ⟨g, m * 5 + 3, none⟩ = some (.int .i64 x3) ∧ w'.cell? ⟨g, m * 5 + 4, none⟩ = some (.int .i64 x4) := fun w' hb => by
        have e1 := fun o' => hb.cell (p := ⟨w.heap.size, o', none⟩) hz0
        have e2 := fun o' => hb.cell (p := ⟨g, o', none⟩) lb'
        rw [e1, e1, e2, e2, e2, e2, e2]
        exact ⟨m0, m1, c0, c1, c2, c3, c4⟩
      have G0 := Lib.hid V0
      have HNE : Hid (∀ k, k ≤ w.heap.size → some k ≠ Value.ownBlock u5) := Lib.hid (fun k hk h => by have := (hown.lt k h.symm).1; omega)
      have HOW := Lib.hid hown
      have HB := Lib.hid hbel
      have HJ : Hid (j ≤ n ∧ i ≤ n) := Lib.hid ⟨by omega, by omega⟩
      clear V0 hown hbel HM hz HB0 hm h36
      go_wp2_with fail
      go_region_held3 (fun w' => w'.cell? ⟨w.heap.size, 0, none⟩ = some (.int .i64 n) ∧ w'.cell? ⟨w.heap.size, 1, none⟩ = some (.slice (some ⟨g, 0, none⟩) (n * n) cap) ∧ w'.cell? ⟨g, m * 5, none⟩ = some (.int .i64 x0) ∧ w'.cell? ⟨g, m * 5 + 1, none⟩ = some (.int .i64 x1) ∧ w'.cell? ⟨g, m * 5 + 2, none⟩ = some (.int .i64 x2) ∧ w'.cell? ⟨g, m * 5 + 3, none⟩ = some (.int .i64 x3) ∧ w'.cell? ⟨g, m * 5 + 4, none⟩ = some (.int .i64 x4))
        ((first | (refine G0.out _ ?_; go_grown; done) | (refine ⟨far_cell hgrow ?_ (HNE.out _ (Nat.le_refl _)), far_cell hgrow ?_ (HNE.out _ (Nat.le_refl _)), far_cell hgrow ?_ (HNE.out _ (Nat.le_of_lt lb)), far_cell hgrow ?_ (HNE.out _ (Nat.le_of_lt lb)), far_cell hgrow ?_ (HNE.out _ (Nat.le_of_lt lb)), far_cell hgrow ?_ (HNE.out _ (Nat.le_of_lt lb)), far_cell hgrow ?_ (HNE.out _ (Nat.le_of_lt lb))⟩ <;> go_cell)))
        ((first | (go_at_call 115; refine (at_any _ _ _ _ hn HJ.out.2 HJ.out.1).mono ?_; rintro e wA ⟨rfl, hb⟩; rw [hme.out]; have HD : Below wr.heap.size wr wA := (Below.trans (by first | exact Below.refl _ _ | go_grown) (hb.mono (by first | omega | (simp; done) | (simp; omega)))); have hzA := HD.size; have HOA := Lib.hid (own_below HOW.out HD); clear hb) | (refine step_append_lies _ (by rfl) _ _ 23 (by rfl) (w.heap.size + 1) 63 i0 _ 5 40 Try.underlying23 HI.out.1 HI.out.2.1 HI.out.2.2.1 HI.out.2.2.2 (by rfl) (by decide) _ i (rowsOf FF i) (by rfl) ((HOA.out.alloc _).drew) ⟨wA.heap.size, 0, none⟩ 1 1 (cellsOf ⟨⟨x0, x1, x2, x3⟩, x4⟩) (by rfl) (by rfl) (World.news_of_block (cs := #[.int .i64 x0, .int .i64 x1, .int .i64 x2, .int .i64 x3, .int .i64 x4]) (t := 63) (fr := (0, 0)) (heap_alloc_new wA _)) (cellsOf_one _) (by omega) (by unfold maxLen; omega) (by omega) (by simp; omega) (wA.heap.size + 1) (by simp) ?_; intro gg cap' w3 hown' hgrow hat hlt)))
      all_goals
        have hrow : rowsOf FF i ++ cellsOf ⟨⟨x0, x1, x2, x3⟩, x4⟩ = rowsOf FF (i + 1) := by
          rw [rowsOf, HZ.out]
        rw [hrow] at hown'
        have hlt2 := HOW.out.lt
        have DB := HB.out.trans (HD.mono (show w.heap.size + 1 ≤ wr.heap.size by omega))
        have HB3 : Below (w.heap.size + 1) (w.alloc (.cells #[.int .i64 n, .slice (some ⟨g, 0, none⟩) (n * n) cap] 115)) w3 :=
          Below.grown (by go_grown) hgrow (by first | omega | (simp; done) | (simp; omega)) (fun k hk => (hlt2 k hk).1)
        have HO3 := Lib.hid hown'
        have HB4 := Lib.hid HB3
        clear hown' hgrow HB3 hrow hlt2 DB HD
        go_wp2_with fail
        go_roundw
        case rel => exact ⟨i + 1, by go_num, by omega, HO3.out, HB4.out⟩
        case measure => simp [intOf]; omega
    · obtain rfl : i = n := by omega
      obtain ⟨bo, dap, rfl, hnu⟩ := Nums.of_own hown
      have HN := Lib.hid hnu
      have HB := Lib.hid (below_base hbel ((Below.refl _ _).alloc (Nat.le_refl _) _))
      clear hown hbel hnu
      go_wp2_with fail
      go_returns
      refine ⟨⟨bo, dap, rfl, ?_⟩, HB.out⟩
      have h1 := HN.out
      rw [hFF.out] at h1
      exact h1
end Go.Proofs.Ytjodjfllgofkaaa
