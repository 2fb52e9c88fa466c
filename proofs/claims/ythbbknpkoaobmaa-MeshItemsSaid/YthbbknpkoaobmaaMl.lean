import Derived.Test.YthbbknpkoaobmaaLr
import Derived.Test.YthbbknpkoaobmaaAk
namespace Go.Proofs.Ythbbknpkoaobmaa
open Go.RowKit Amp
attribute [local go_sem] ix0 ix1 ix2 ix3 jx0 jx1 jx2 jx3
attribute [local go_sem high] run_eqNum run_neNum

set_option maxHeartbeats 2000000 in
theorem rLight_bad (N : Int) (len lap m map' : Nat) (ao vo : Option Addr) (f : Nat → It) (y : Nat → Nm) (w : World) (hlen : len ≤ 9223372036854775807) (hm : m ≤ 9223372036854775807) (hc : Its w ao len f) (hy : Nums w vo m y) (er : Int) (h : Hid (askS N len f = er ∧ er ≠ 0 ∨ askS N len f = 0 ∧ ∃ n : Nat, N = n ∧ lightE n m y = er ∧ er ≠ 0)) :
    Calls Try.prog 18 #[.int .i64 N, .slice ao len lap, .slice vo m map'] w fun e w' => e = .returned (.tuple #[.slice none 0 0, .int .i64 er]) ∧ Below w.heap.size w w' := by
  have HC := Lib.hid hc
  have HY := Lib.hid hy
  clear hc hy
  rcases h.out with ⟨h1, h2⟩ | ⟨h1, n, rfl, h2, h3⟩
  · have HA := Lib.hid h1
    have hb0 : (er == 0) = false := beq_eq_false_iff_ne.2 h2
    have hb1 : (er != 0) = true := bne_iff_ne.2 h2
    clear h1 h2 h
    go_enter Try.func18, Try.ntmps18
    go_wp2_with fail
    refine (asked_any N len lap ao f _ hlen (HC.out.keep (Below.refl _ _))).mono ?_
    rintro e w1 ⟨rfl, hb⟩
    rw [HA.out]
    go_wp2_with fail
    go_ret2
    exact ⟨rfl, hb⟩
  · have HA := Lib.hid h1
    cases hV : vecS m y
    · have HE : Hid (er = 20) := Lib.hid (by rw [← h2]; unfold lightE; rw [hV]; rfl)
      have HV := Lib.hid hV
      clear h1 h2 h3 hV h
      go_enter Try.func18, Try.ntmps18
      go_wp2_with fail
      refine (asked_any n len lap ao f _ hlen (HC.out.keep (Below.refl _ _))).mono ?_
      rintro e w1 ⟨rfl, hb⟩
      rw [HA.out]
      have D1 := Lib.hid hb
      clear hb
      go_wp2_with fail
      refine (isVector_any vo m map' y _ hm (HY.out.keep D1.out)).mono ?_
      rintro e w2 ⟨rfl, hb⟩
      rw [HV.out]
      have D2 := D1.out.trans (hb.mono D1.out.size)
      clear hb
      go_wp2_with fail
      go_ret2
      exact ⟨by rw [HE.out]; rfl, D2⟩
    · have hne : ¬ n = m := fun e => h3 (by rw [← h2]; unfold lightE; rw [if_pos hV, if_pos e])
      have HE : Hid (er = 21) := Lib.hid (by rw [← h2]; unfold lightE; rw [if_pos hV, if_neg hne])
      have HV := Lib.hid hV
      have hb1 : ((m : Int) != (n : Int)) = true := bne_iff_ne.2 (by omega)
      have hb2 : ((m : Int) == (n : Int)) = false := beq_eq_false_iff_ne.2 (by omega)
      clear h1 h2 h3 hV h hne
      go_enter Try.func18, Try.ntmps18
      go_wp2_with fail
      refine (asked_any n len lap ao f _ hlen (HC.out.keep (Below.refl _ _))).mono ?_
      rintro e w1 ⟨rfl, hb⟩
      rw [HA.out]
      have D1 := Lib.hid hb
      clear hb
      go_wp2_with fail
      refine (isVector_any vo m map' y _ hm (HY.out.keep D1.out)).mono ?_
      rintro e w2 ⟨rfl, hb⟩
      rw [HV.out]
      have D2 := D1.out.trans (hb.mono D1.out.size)
      clear hb
      go_wp2_with fail
      go_ret2
      exact ⟨by rw [HE.out]; rfl, D2⟩
def MR (K : Int) (L : Nat) (F : Nat → Nm) (er : Int) (w' : World) (e : Ending) : Prop := ∃ ro rc, e = .returned (.tuple #[.agg #[.int .i64 K, .slice ro L rc], .int .i64 er]) ∧ Nums w' ro L F
def LR (L : Nat) (F : Nat → Nm) (er : Int) (w' : World) (e : Ending) : Prop := ∃ ro rc, e = .returned (.tuple #[.slice ro L rc, .int .i64 er]) ∧ Nums w' ro L F
theorem MatWOr.mr {B : Nat} {w : World} {e : Ending} {n : Nat} {F : Nat → Nm} {er : Int} (h : MatWOr B w e n F er) : MR (if er = 0 then (n : Int) else 0) (if er = 0 then n * n else 0) F er w e := by
  rcases h with ⟨h0, g, cap, rfl, h1, _⟩ | ⟨h0, rfl⟩
  · rw [if_pos h0, if_pos h0, h0]; exact ⟨_, _, rfl, h1.nums⟩
  · rw [if_neg h0, if_neg h0]; exact ⟨_, _, rfl, fun h => absurd h (by omega)⟩
theorem VecOr.lr {w : World} {e : Ending} {n : Nat} {F : Nat → Nm} {er : Int} (h : VecOr w e n F er) : LR (if er = 0 then n else 0) F er w e := by
  rcases h with ⟨h0, ao, cap, rfl, h1⟩ | ⟨h0, rfl⟩
  · rw [if_pos h0, h0]; exact ⟨_, _, rfl, h1⟩
  · rw [if_neg h0]; exact ⟨_, _, rfl, fun h => absurd h (by omega)⟩
theorem mats (N : Int) (len lap : Nat) (ao : Option Addr) (f : Nat → It) (hlen : len ≤ 9223372036854775807) : ∃ (K : Int) (L : Nat) (F : Nat → Nm) (er : Int), L ≤ 36 ∧
    (∀ w, Its w ao len f → Calls Try.prog 12 #[.int .i64 N, .slice ao len lap] w fun e w' => MR K L F er w' e ∧ Below w.heap.size w w') ∧
    (∀ w, Its w ao len f → Calls Try.prog 13 #[.int .i64 N, .slice ao len lap] w fun e w' => MR K L F er w' e ∧ Below w.heap.size w w') := by
  by_cases ha : askS N len f = 0
  · obtain ⟨n, rfl⟩ : ∃ n : Nat, N = n := ⟨N.toNat, by have := (askS_ok ha).1; omega⟩
    have h6 : n ≤ 6 := by have := (askS_ok ha).2.1; omega
    refine ⟨_, _, (prodS n f len).1, (prodS n f len).2, ?_, fun w hc => (matrixOf_ok n len lap ao f w hlen hc (Lib.hid ha)).mono fun e w' ⟨h1, h2⟩ => ⟨h1.mr, h2⟩, fun w hc => (rMatrixOf_ok n len lap ao f w hlen hc (Lib.hid ha)).mono fun e w' ⟨h1, h2⟩ => ⟨h1.mr, h2⟩⟩
    split
    · exact Nat.mul_le_mul h6 h6
    · omega
  · exact ⟨0, 0, fun _ => N0, askS N len f, by omega, fun w hc => (matrixOf_no N len lap ao f w hlen hc (Lib.hid ha)).mono fun e w' ⟨h1, h2⟩ => ⟨⟨_, _, h1, fun h => absurd h (by omega)⟩, h2⟩, fun w hc => (rMatrixOf_no N len lap ao f w hlen hc (Lib.hid ha)).mono fun e w' ⟨h1, h2⟩ => ⟨⟨_, _, h1, fun h => absurd h (by omega)⟩, h2⟩⟩
theorem lights (N : Int) (len lap m map' : Nat) (ao vo : Option Addr) (f : Nat → It) (y : Nat → Nm) (hlen : len ≤ 9223372036854775807) (hm : m ≤ 9223372036854775807) : ∃ (L : Nat) (F : Nat → Nm) (er : Int), L ≤ 6 ∧
    (∀ w, Its w ao len f → Nums w vo m y → Calls Try.prog 17 #[.int .i64 N, .slice ao len lap, .slice vo m map'] w fun e w' => LR L F er w' e ∧ Below w.heap.size w w') ∧
    (∀ w, Its w ao len f → Nums w vo m y → Calls Try.prog 18 #[.int .i64 N, .slice ao len lap, .slice vo m map'] w fun e w' => LR L F er w' e ∧ Below w.heap.size w w') := by
  by_cases ha : askS N len f = 0
  · obtain ⟨n, rfl⟩ : ∃ n : Nat, N = n := ⟨N.toNat, by have := (askS_ok ha).1; omega⟩
    have hk := askS_ok ha
    have h1 : 0 < n := by omega
    have h6 : n ≤ 6 := by omega
    have hfit : fitTo n f len = true := by have := hk.2.2.2; rwa [Int.toNat_natCast] at this
    by_cases h0 : lightE n m y = 0
    · obtain ⟨rfl, hV⟩ : n = m ∧ vecS m y = true := by
        unfold lightE at h0
        split at h0
        · next hV => split at h0
                     · next e => exact ⟨e, hV⟩
                     · cases h0
        · cases h0
      refine ⟨_, (lightS n f (y, 0) len).1, (lightS n f (y, 0) len).2, ?_, fun w hc hy => (mLight_ok n len lap n map' ao vo f y w h1 h6 hk.2.2.1 hm hc hy (Lib.hid ha) (Lib.hid hfit)).mono fun e w' ⟨q1, q2⟩ => ⟨?_, q2⟩, fun w hc hy => (rLight_good n len lap map' ao vo f y w h1 h6 hk.2.2.1 hc hy (Lib.hid ha) (Lib.hid hfit) (Lib.hid hV)).mono fun e w' ⟨q1, q2⟩ => ⟨q1.lr, q2⟩⟩
      · split <;> omega
      · rw [h0] at q1; exact q1.lr
    · have hst : lightS n f (y, lightE n m y) len = (y, lightE n m y) := lightS_stay (n := n) (f := f) (p := (y, lightE n m y)) (k := 0) (show (lightS n f (y, lightE n m y) 0).2 ≠ 0 from h0) len (by omega)
      refine ⟨0, fun _ => N0, lightE n m y, by omega, fun w hc hy => (mLight_ok n len lap m map' ao vo f y w h1 h6 hk.2.2.1 hm hc hy (Lib.hid ha) (Lib.hid hfit)).mono fun e w' ⟨q1, q2⟩ => ⟨?_, q2⟩, fun w hc hy => (rLight_bad n len lap m map' ao vo f y w hlen hm hc hy (lightE n m y) (Lib.hid (.inr ⟨ha, n, rfl, rfl, h0⟩))).mono fun e w' ⟨q1, q2⟩ => ⟨⟨_, _, q1, fun h => absurd h (by omega)⟩, q2⟩⟩
      rw [hst] at q1
      rcases q1 with ⟨q3, _⟩ | ⟨_, q3⟩
      · exact absurd q3 h0
      · exact ⟨_, _, q3, fun h => absurd h (by omega)⟩
  · exact ⟨0, fun _ => N0, askS N len f, by omega, fun w hc hy => (mLight_no N len lap m map' ao vo f w hlen hc (Lib.hid ha)).mono fun e w' ⟨h1, h2⟩ => ⟨⟨_, _, h1, fun h => absurd h (by omega)⟩, h2⟩, fun w hc hy => (rLight_bad N len lap m map' ao vo f y w hlen hm hc hy _ (Lib.hid (.inl ⟨rfl, ha⟩))).mono fun e w' ⟨h1, h2⟩ => ⟨⟨_, _, h1, fun h => absurd h (by omega)⟩, h2⟩⟩

set_option maxRecDepth 100000 in
set_option maxHeartbeats 4000000 in
theorem MeshItems_any (N : Int) (len lap m map' : Nat) (ao vo : Option Addr) (f : Nat → It) (y : Nat → Nm) (w : World) (hlen : len ≤ 9223372036854775807) (hm : m ≤ 9223372036854775807) (hc : Its w ao len f) (hy : Nums w vo m y) :
    Calls Try.prog 3 #[.int .i64 N, .slice ao len lap, .slice vo m map'] w fun e w' => e = .returned (.bool true) ∧ Below w.heap.size w w' := by
  have HC := Lib.hid hc
  have HY := Lib.hid hy
  clear hc hy
  by_cases hsmall : len ≤ 120 ∧ m ≤ 20
  · obtain ⟨hl1, hm1⟩ := hsmall
    have hl2 : (len : Int) ≤ 120 := by omega
    have hm2 : (m : Int) ≤ 20 := by omega
    have hl3 : ¬ (120 : Int) < (len : Int) := by omega
    have hm3 : ¬ (20 : Int) < (m : Int) := by omega
    obtain ⟨K, L, F, er, hL, hA, hB⟩ := mats N len lap ao f hlen
    obtain ⟨L2, F2, er2, hL2, hA2, hB2⟩ := lights N len lap m map' ao vo f y hlen hm
    have HA := Lib.hid hA
    have HB := Lib.hid hB
    have HA2 := Lib.hid hA2
    have HB2 := Lib.hid hB2
    obtain ⟨V, hV⟩ : ∃ V, Hid (flatB N len f = V) := ⟨_, rfl⟩
    clear hA hB hA2 hB2
    go_enter Try.func3, Try.ntmps3
    go_wp2_with fail
    refine (HA.out _ HC.out).mono ?_
    rintro e w1 ⟨⟨ro, rc, rfl, h1⟩, hb⟩
    have H1 := Lib.hid h1
    have D1 := Lib.hid hb
    have s1 := hb.size
    clear hb h1
    go_wp2_with fail
    refine (HB.out _ (HC.out.keep (by have := D1.out; go_grown))).mono ?_
    rintro e w2 ⟨⟨so, sc, rfl, h2⟩, hb⟩
    have H2 := Lib.hid h2
    have H12 := Lib.hid (Nums.keep H1.out (Below.trans (show Below w1.heap.size w1 _ by go_grown) (hb.mono (by simp))))
    have c0 : w2.cell? ⟨w1.heap.size, 0, none⟩ = some (.int .i64 K) := (hb.cell (p := ⟨w1.heap.size, 0, none⟩) (by simp)).trans (by go_cell)
    have c1 : w2.cell? ⟨w1.heap.size, 1, none⟩ = some (.slice ro L rc) := (hb.cell (p := ⟨w1.heap.size, 1, none⟩) (by simp)).trans (by go_cell)
    have D2 := Lib.hid (show Below w.heap.size w w2 from Below.trans (by have := D1.out; go_grown) (hb.mono (by first | omega | (simp; omega))))
    have s2 : w1.heap.size < w2.heap.size := by have hs := hb.size; (try simp at hs); omega
    clear hb h2
    go_wp2_with fail
    refine (sameMatrix_yes K ro so L rc sc F _ (by omega) (H12.out.keep (by go_grown)) (H2.out.keep (by go_grown))).mono ?_
    rintro e w3 ⟨rfl, hb⟩
    have D3 := Lib.hid (show Below w.heap.size w w3 from Below.trans (by have := D2.out; go_grown) (hb.mono (by first | omega | (simp; omega))))
    clear hb c0 c1
    go_wp2_with fail
    refine (mValidItems_any N len lap ao f _ hlen (HC.out.keep D3.out)).mono ?_
    rintro e w4 ⟨rfl, hb⟩
    rw [hV.out]
    have D4 := Lib.hid (D3.out.trans (hb.mono D3.out.size))
    clear hb
    go_wp2_with fail
    refine (rValidItems_any N len lap ao f _ hlen (HC.out.keep D4.out)).mono ?_
    rintro e w5 ⟨rfl, hb⟩
    rw [hV.out]
    have D5 := Lib.hid (D4.out.trans (hb.mono D4.out.size))
    clear hb
    go_wp2_with fail
    refine (HA2.out _ (HC.out.keep D5.out) (HY.out.keep D5.out)).mono ?_
    rintro e w6 ⟨⟨po, pc, rfl, h6⟩, hb⟩
    have H6 := Lib.hid h6
    have D6 := Lib.hid (D5.out.trans (hb.mono D5.out.size))
    clear hb h6
    go_wp2_with fail
    refine (HB2.out _ (HC.out.keep D6.out) (HY.out.keep D6.out)).mono ?_
    rintro e w7 ⟨⟨uo, uc, rfl, h7⟩, hb⟩
    have H7 := Lib.hid h7
    have H67 := Lib.hid (H6.out.keep hb)
    have D7 := Lib.hid (D6.out.trans (hb.mono D6.out.size))
    clear hb h7
    go_wp2_with fail
    refine (sameNums_yes po uo L2 pc uc F2 _ (by omega) H67.out H7.out).mono ?_
    rintro e w8 ⟨rfl, hb⟩
    have D8 := Lib.hid (D7.out.trans (hb.mono D7.out.size))
    clear hb
    go_wp2_with fail
    refine (mawake_any _).mono ?_
    rintro e w9 ⟨rfl, hb⟩
    have D9 := D8.out.trans (hb.mono D8.out.size)
    clear hb
    go_wp2_with fail
    go_returns
    exact ⟨rfl, D9⟩
  · by_cases h1 : (120 : Int) < (len : Int)
    · clear hsmall
      go_enter Try.func3, Try.ntmps3
      go_wp2_with fail
      refine (mawake_any _).mono ?_
      rintro e w9 ⟨rfl, hb⟩
      go_wp2_with fail
      go_returns
      exact ⟨rfl, hb⟩
    · have h2 : (20 : Int) < (m : Int) := by omega
      clear hsmall
      go_enter Try.func3, Try.ntmps3
      go_wp2_with fail
      refine (mawake_any _).mono ?_
      rintro e w9 ⟨rfl, hb⟩
      go_wp2_with fail
      go_returns
      exact ⟨rfl, hb⟩
end Go.Proofs.Ythbbknpkoaobmaa
