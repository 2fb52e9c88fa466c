import Derived.Test.YtfilofnkiocbeaaBq8
import Derived.Test.YtfilofnkiocbeaaBr8
import Derived.Test.YtfilofnkiocbeaaLkm
import Derived.Test.YtfilofnkiocbeaaCd8
import Derived.Test.YtfilofnkiocbeaaLg8
import Derived.Test.YtfilofnkiocbeaaQf8
import Derived.Test.YtfilofnkiocbeaaBt8
namespace Go.Proofs.Ytfilofnkiocbeaa
open Go.RowKit Ben Prm
/-- Settings make a permutation. -/
theorem ouF_perm (s : Nat → Bool) {k : Nat} (hk : k ≤ 3) : isPm (sz k) (ouF s k) = true := by
  have hp : isP ((sz k : Nat) : Int) = true := by
    have h : k = 0 ∨ k = 1 ∨ k = 2 ∨ k = 3 := by omega
    rcases h with rfl | rfl | rfl | rfl <;> decide
  rw [isPm_in hp, okUp_iff]
  intro i hi
  have h1 := out_lt s k 0 i hi
  refine ⟨by unfold ouF; omega, by unfold ouF; omega, fun j hj e => ?_⟩
  unfold ouF at e
  have e2 : out s k 0 j = out s k 0 i := by omega
  have a := back_of s (k := k) (b := 0) (i := j) (by omega)
  have b := back_of s (k := k) (b := 0) (i := i) hi
  rw [e2, b] at a
  omega
set_option maxRecDepth 100000 in
set_option maxHeartbeats 8000000 in
theorem BenesBack_any (n : Int) (m cap : Nat) (ao : Option Addr) (s : Nat → Bool) (w : World) (hm : m ≤ 9223372036854775807) (hcap : m ≤ cap) (hcm : cap ≤ 9223372036854775807) (hc : Bools w ao m s) :
    Calls Try.prog 13 #[.int .i64 n, .slice ao m cap] w fun e w' => e = .returned (.bool true) ∧ Below w.heap.size w w' := by
  have HC := Lib.hid hc
  clear hc
  by_cases h80 : 80 < (m : Int)
  · go_enter Try.func13, Try.ntmps13
    go_wp2_with fail
    refine (sane_any _).mono ?_
    rintro e w1 ⟨rfl, hb⟩
    go_wp2_with fail
    go_returns
    exact ⟨rfl, hb⟩
  have h80' : m ≤ 80 := by omega
  by_cases he : ckE n m = 0
  · obtain ⟨hn, hk, hmk⟩ := ckE_ok he
    generalize lv n = k at *
    subst hn hmk
    clear he
    have hcp := cn_pos k
    have hs16 := sz_le hk
    have hsp := sz_pos k
    obtain ⟨b, o, rfl, hcell⟩ := HC.out (by omega)
    have HL : Hid (Bl w b o (cn k) s) := Lib.hid hcell
    clear hcell HC
    obtain ⟨t, ht⟩ : ∃ t : Nat → Bool, (fun j => s (mi k j)) = t := ⟨_, rfl⟩
    have HT : Hid (∀ j, s (mi k j) = t j) := Lib.hid (fun j => congrFun ht j)
    have HBK : Hid (∀ i, i < sz k → out t k 0 (out s k 0 i) = i) := Lib.hid (fun i hi => back k 0 0 i hi (fun j hj => by rw [Nat.zero_add, Nat.zero_add]; exact (congrFun ht j).symm))
    have HPM := Lib.hid (ouF_perm s hk)
    go_enter Try.func13, Try.ntmps13
    go_wp2_with fail
    refine (pThrough_ok k cap _ s _ hk HL.out.bools).mono ?_
    rintro e w1 ⟨⟨g1, c1, rfl, hW, hgB1, hs1⟩, hb⟩
    have HP1 := Lib.hid hW
    have HB1 := Lib.hid hb
    have HL1 := Lib.hid (HL.out.keep hb)
    clear hW hb HL
    go_wp2_with fail
    refine (pMirror_ok k cap b o s _ hk hcap hcm HL1.out).mono ?_
    unfold MirR
    rw [ht]
    rintro e w2 ⟨⟨g2, c2, rfl, hW, hgB2, hs2, hcc2, hmm2⟩, hb⟩
    have HM2 := Lib.hid hW
    have HP2 := Lib.hid (HP1.out.keep hb)
    have HB2 := Lib.hid (HB1.out.trans (hb.mono HB1.out.size))
    have HL2 := Lib.hid (HL1.out.keep hb)
    clear hW hb HL1 HP1 HB1 ht
    go_wp2_with fail
    refine (pMirror_ok k c2 g2 0 t _ hk hcc2 hmm2 HM2.out).mono ?_
    unfold MirR
    rintro e w3 ⟨⟨g3, c3, rfl, hW, hgB3, hs3, hcc3, hmm3⟩, hb⟩
    have HBB : Hid (Bl w3 g3 0 (cn k) s) := Lib.hid (fun j hj => by
      have h := hW j hj
      dsimp only at h
      rw [← HT.out (mi k j), mi_mi k j hj] at h
      exact h)
    have HM3 := Lib.hid (HM2.out.keep hb)
    have HP3 := Lib.hid (HP2.out.keep hb)
    have HB3 := Lib.hid (HB2.out.trans (hb.mono HB2.out.size))
    have HL3 := Lib.hid (HL2.out.keep hb)
    clear hW hb HL2 HP2 HB2 HM2
    go_wp2_with fail
    refine (pThrough_ok k c2 _ t _ hk HM3.out.bools).mono ?_
    rintro e w4 ⟨⟨g4, c4, rfl, hW, hgB4, hs4⟩, hb⟩
    have HQ4 := Lib.hid hW
    have HBB4 := Lib.hid (HBB.out.keep hb)
    have HP4 := Lib.hid (HP3.out.keep hb)
    have HB4 := Lib.hid (HB3.out.trans (hb.mono HB3.out.size))
    have HL4 := Lib.hid (HL3.out.keep hb)
    clear hW hb HL3 HP3 HB3 HM3 HBB
    have hne : (((sz k : Nat) : Int) != ((sz k : Nat) : Int)) = false := by simp
    go_wp2_with fail
    refine (sameSet_yes (cn k) c3 cap (some ⟨g3, 0, none⟩) (some ⟨b, o, none⟩) s _ (by omega) HBB4.out.bools HL4.out.bools).mono ?_
    rintro e w5 ⟨rfl, hb⟩
    have HQ5 := Lib.hid (HQ4.out.keep hb)
    have HP5 := Lib.hid (HP4.out.keep hb)
    have HB5 := Lib.hid (HB4.out.trans (hb.mono HB4.out.size))
    clear hb HQ4 HP4 HB4 HBB4 HL4
    go_wp2_with fail
    refine (rIsPerm_any (sz k) c1 (some ⟨g1, 0, none⟩) (ouF s k) _ (by omega) HP5.out.ints).mono ?_
    rw [HPM.out]
    rintro e w6 ⟨rfl, hb⟩
    have HQ6 := Lib.hid (HQ5.out.keep hb)
    have HP6 := Lib.hid (HP5.out.keep hb)
    have HB6 := Lib.hid (HB5.out.trans (hb.mono HB5.out.size))
    clear hb HQ5 HP5 HB5
    go_wp2_with fail
    go_loopw [13] (fun iv wr => ∃ (z : Int) (i : Nat), iv = .int .i64 z ∧ z = i ∧ i ≤ sz k ∧ Hid (Below w6.heap.size w6 wr)) (fun iv _ => sz k - (intOf iv).toNat)
    case atStart => exact ⟨0, 0, rfl, rfl, by omega, Lib.hid (Below.refl _ _)⟩
    case round =>
      obtain ⟨z, i, rfl, hz, hi, HB⟩ := hrel
      by_cases hlt : i < sz k
      · have hlt' : z < ((sz k : Nat) : Int) := by omega
        subst hz
        have i00 : (0 : Int) ≤ (i : Int) := by omega
        obtain ⟨x, hx⟩ : ∃ x, out s k 0 i = x := ⟨_, rfl⟩
        have hxl : x < sz k := by rw [← hx]; exact out_lt s k 0 i hlt
        have hxi : (x : Int) < ((sz k : Nat) : Int) := by omega
        have c0 := ((HP6.out.keep HB.out) i hlt).1
        rw [show ouF s k i = (x : Int) by unfold ouF; rw [hx]] at c0
        have d0 := ((HQ6.out.keep HB.out) x hxl).1
        rw [show ouF t k x = (i : Int) by unfold ouF; rw [← hx, HBK.out i hlt]] at d0
        have hq : ((i : Int) != (i : Int)) = false := by simp
        have hbr := HB.out
        clear hx HB
        have i16 : (i : Int) ≤ 16 := by omega
        go_wp2_with fail
        go_roundw
        case rel => exact ⟨(i : Int) + 1, i + 1, by first | rfl | (rw [show wrap64 ((i : Int) + 1) = (i : Int) + 1 by simp only [wrap64]; omega]), by omega, by omega, Lib.hid (by go_grown)⟩
        case measure => first | (simp [intOf]; done) | (simp [intOf]; omega)
      · have hzn : ¬ z < ((sz k : Nat) : Int) := by omega
        obtain rfl : i = sz k := by omega
        subst hz
        have hbl := HB6.out.trans (HB.out.mono HB6.out.size)
        clear HB HB6 HP6 HQ6
        go_wp2_with fail
        refine (sane_any _).mono ?_
        rintro e wz ⟨rfl, hb⟩
        have DZ := hbl.trans (hb.mono hbl.size)
        clear hb hbl
        go_wp2_with fail
        go_returns
        exact ⟨rfl, DZ⟩
  · have HE := Lib.hid he
    have h1 : (ckE n m != 0) = true := bne_iff_ne.2 he
    clear he h80
    go_enter Try.func13, Try.ntmps13
    go_wp2_with fail
    refine (pThrough_no n m cap ao _ (by omega) HE.out).mono ?_
    rintro e w' ⟨rfl, rfl⟩
    go_wp2_with fail
    refine (pMirror_no n m cap ao _ (by omega) HE.out).mono ?_
    rintro e w' ⟨rfl, rfl⟩
    have hbl : Below w.heap.size w w := Below.refl _ _
    go_wp2_with fail
    refine (sane_any _).mono ?_
    rintro e wz ⟨rfl, hb⟩
    have DZ := hbl.trans (hb.mono hbl.size)
    clear hb hbl
    go_wp2_with fail
    go_returns
    exact ⟨rfl, DZ⟩
end Go.Proofs.Ytfilofnkiocbeaa

namespace Go.Proofs.Ytfilofnkiocbeaa
open Go.RowKit Ben Prm
/-- Kinds of stuck switches by a number. -/
def gN (n : Nat) : Nat → Int := fun j => ((n / 3 ^ j % 3 : Nat) : Int)
/-- How many settings agree with stuck switches. -/
def frN (g : Nat → Int) : Nat → Nat
  | 0 => 1
  | k + 1 => if g k = 0 then 2 * frN g k else frN g k
/-- The ways of the first t permutations of 4. -/
def wsT (g : Nat → Int) : Nat → Nat
  | 0 => 0
  | t + 1 => wsT g t + wN 1 (fun j => (prF 4 t j).toNat) g
theorem free_all : ∀ n, n < 729 → wsT (gN n) 24 = frN (gN n) 6 := by decide +kernel
theorem wsT_congr {g g' : Nat → Int} (h : ∀ j, j < 6 → g j = g' j) : ∀ t, wsT g t = wsT g' t
  | 0 => rfl
  | t + 1 => by
    have a := wsT_congr h t
    have b := wN_congr 1 (p := fun j => (prF 4 t j).toNat) (st := g) (st' := g') (fun _ _ => rfl) (fun j hj => h j hj)
    simp only [wsT]
    rw [a, b]
theorem wsT_mono (g : Nat → Int) {t u : Nat} (h : t ≤ u) : wsT g t ≤ wsT g u := by
  induction u with
  | zero => have : t = 0 := by omega
            subst this; exact Nat.le_refl _
  | succ u ih =>
    by_cases e : t = u + 1
    · subst e; exact Nat.le_refl _
    · exact Nat.le_trans (ih (by omega)) (Nat.le_add_right _ _)
theorem frN_pos (g : Nat → Int) : ∀ k, 1 ≤ frN g k
  | 0 => Nat.le_refl _
  | k + 1 => by
    have := frN_pos g k
    simp only [frN]
    split <;> omega
theorem frN_le (g : Nat → Int) : ∀ k, frN g k ≤ 2 ^ k
  | 0 => Nat.le_refl _
  | k + 1 => by
    have := frN_le g k
    simp only [frN]
    rw [Nat.pow_succ]
    split <;> omega
theorem frN_yes {g : Nat → Int} {k : Nat} (h : g k = 0) : frN g (k + 1) = 2 * frN g k := if_pos h
theorem frN_no {g : Nat → Int} {k : Nat} (h : ¬ g k = 0) : frN g (k + 1) = frN g k := if_neg h
theorem frN_congr {g g' : Nat → Int} : ∀ k, (∀ j, j < k → g j = g' j) → frN g k = frN g' k
  | 0, _ => rfl
  | k + 1, h => by
    simp only [frN, h k (by omega), frN_congr k fun j hj => h j (by omega)]
set_option maxHeartbeats 4000000 in
theorem num_of {g : Nat → Int} (h : ∀ j, j < 6 → 0 ≤ g j ∧ g j ≤ 2) : ∃ n, n < 729 ∧ ∀ j, j < 6 → g j = gN n j := by
  have q : ∀ j, j < 6 → ∃ a : Nat, g j = (a : Int) ∧ a ≤ 2 := fun j hj => ⟨(g j).toNat, by have := h j hj; omega, by have := h j hj; omega⟩
  obtain ⟨a0, e0, l0⟩ := q 0 (by omega)
  obtain ⟨a1, e1, l1⟩ := q 1 (by omega)
  obtain ⟨a2, e2, l2⟩ := q 2 (by omega)
  obtain ⟨a3, e3, l3⟩ := q 3 (by omega)
  obtain ⟨a4, e4, l4⟩ := q 4 (by omega)
  obtain ⟨a5, e5, l5⟩ := q 5 (by omega)
  clear q h
  have d1 : (a0 + 3 * (a1 + 3 * (a2 + 3 * (a3 + 3 * (a4 + 3 * a5))))) / 3 = a1 + 3 * (a2 + 3 * (a3 + 3 * (a4 + 3 * a5))) := by omega
  have d2 : (a1 + 3 * (a2 + 3 * (a3 + 3 * (a4 + 3 * a5)))) / 3 = a2 + 3 * (a3 + 3 * (a4 + 3 * a5)) := by omega
  have d3 : (a2 + 3 * (a3 + 3 * (a4 + 3 * a5))) / 3 = a3 + 3 * (a4 + 3 * a5) := by omega
  have d4 : (a3 + 3 * (a4 + 3 * a5)) / 3 = a4 + 3 * a5 := by omega
  have d5 : (a4 + 3 * a5) / 3 = a5 := by omega
  refine ⟨a0 + 3 * (a1 + 3 * (a2 + 3 * (a3 + 3 * (a4 + 3 * a5)))), by omega, fun j hj => ?_⟩
  unfold gN
  have : j = 0 ∨ j = 1 ∨ j = 2 ∨ j = 3 ∨ j = 4 ∨ j = 5 := by omega
  rcases this with rfl | rfl | rfl | rfl | rfl | rfl
  · rw [Nat.pow_zero, Nat.div_one, e0]; clear d1 d2 d3 d4 d5; omega
  · rw [show 3 ^ 1 = 3 from rfl, d1, e1]; clear d1 d2 d3 d4 d5; omega
  · rw [show 3 ^ 2 = 3 * 3 from rfl, ← Nat.div_div_eq_div_mul, d1, d2, e2]; clear d1 d2 d3 d4 d5; omega
  · rw [show 3 ^ 3 = 3 * 3 * 3 from rfl, ← Nat.div_div_eq_div_mul, ← Nat.div_div_eq_div_mul, d1, d2, d3, e3]; clear d1 d2 d3 d4 d5; omega
  · rw [show 3 ^ 4 = 3 * 3 * 3 * 3 from rfl, ← Nat.div_div_eq_div_mul, ← Nat.div_div_eq_div_mul, ← Nat.div_div_eq_div_mul, d1, d2, d3, d4, e4]; clear d1 d2 d3 d4 d5; omega
  · rw [show 3 ^ 5 = 3 * 3 * 3 * 3 * 3 from rfl, ← Nat.div_div_eq_div_mul, ← Nat.div_div_eq_div_mul, ← Nat.div_div_eq_div_mul, ← Nat.div_div_eq_div_mul, d1, d2, d3, d4, d5, e5]; clear d1 d2 d3 d4 d5; omega
/-- The ways of all permutations of 4 add up. -/
theorem free_sum {g : Nat → Int} (h : ∀ j, j < 6 → 0 ≤ g j ∧ g j ≤ 2) : wsT g 24 = frN g 6 := by
  obtain ⟨n, hn, hg⟩ := num_of h
  have h1 := free_all n hn
  have h2 := wsT_congr hg 24
  have h3 := frN_congr 6 hg
  rw [h2, h3]
  exact h1
end Go.Proofs.Ytfilofnkiocbeaa

namespace Go.Proofs.Ytfilofnkiocbeaa
open Go.RowKit Ben Prm
set_option maxRecDepth 100000 in
set_option maxHeartbeats 4000000 in
theorem straight_any (w : World) : Calls Try.prog 45 #[] w fun e w' => e = .returned (.bool true) ∧ Below w.heap.size w w' := by
  have hal : Below w.heap.size w (w.alloc (.cells #[.bool true] 4)) := (Below.refl _ _).alloc (Nat.le_refl _) _
  have HB : Hid (Bools (w.alloc (.cells #[.bool true] 4)) (some ⟨w.heap.size, 0, none⟩) (cn 0) (fun _ => true)) := Lib.hid (fun _ => ⟨w.heap.size, 0, rfl, fun j hj => by
    obtain rfl : j = 0 := by have : cn 0 = 1 := rfl; omega
    rw [cell_of_row _ _ _ _ _ (0, 0) (heap_alloc_new w _)]
    rfl⟩)
  go_enter Try.func45, Try.ntmps45
  go_wp2_with fail
  refine (pThrough_ok 0 1 (some ⟨w.heap.size, 0, none⟩) (fun _ => true) _ (by omega) HB.out).mono ?_
  rintro e w1 ⟨⟨g, cap, rfl, hW, _, _⟩, hb⟩
  have c0 : w1.cell? ⟨g, 0, none⟩ = some (.int .i64 1) := (hW 0 (by decide)).1
  have c1 : w1.frozen? ⟨g, 0, none⟩ = false := (hW 0 (by decide)).2
  have hs : sz 0 = 2 := rfl
  have DZ : Below w.heap.size w w1 := hal.trans (hb.mono hal.size)
  clear hW hb hal
  go_wp2_with fail
  go_returns
  exact ⟨rfl, DZ⟩
theorem same_of {f g : Nat → Int} : ∀ {n : Nat}, (∀ j, j < n → f j = g j) → sameTo f g n = true
  | 0, _ => rfl
  | n + 1, h => by
    simp only [sameTo]
    rw [same_of fun j hj => h j (by omega), decide_eq_true (h n (by omega))]
    rfl
set_option maxRecDepth 100000 in
set_option maxHeartbeats 16000000 in
theorem TopNetworks_any (n cap : Nat) (ao : Option Addr) (f : Nat → Int) (K : Nat → Int) (w : World) (hn : n ≤ 9223372036854775807) (hc : Ints w ao n f) (hK : ∀ j, j < 6 → 0 ≤ K j ∧ K j ≤ 255) :
    Calls Try.prog 16 #[.slice ao n cap, .agg #[.int .u8 (K 0), .int .u8 (K 1), .int .u8 (K 2), .int .u8 (K 3), .int .u8 (K 4), .int .u8 (K 5)]] w fun e w' => e = .returned (.bool true) ∧ Below w.heap.size w w' := by
  have HC := Lib.hid hc
  have HK := Lib.hid hK
  clear hc hK
  by_cases h16 : 16 < (n : Int)
  · go_enter Try.func16, Try.ntmps16
    go_wp2_with fail
    refine (straight_any _).mono ?_
    rintro e w1 ⟨rfl, hb⟩
    have DZ : Below w.heap.size w w1 := ((Below.refl _ _).alloc (Nat.le_refl _) _).trans (hb.mono (by simp))
    go_wp2_with fail
    go_returns
    exact ⟨rfl, DZ⟩
  have h16' : (n : Int) ≤ 16 := by omega
  obtain ⟨w0, hw0⟩ : ∃ w0, w0 = w.alloc (.cells #[.int .u8 (K 0), .int .u8 (K 1), .int .u8 (K 2), .int .u8 (K 3), .int .u8 (K 4), .int .u8 (K 5)] 51) := ⟨_, rfl⟩
  have hA : Below w.heap.size w w0 := by rw [hw0]; exact (Below.refl _ _).alloc (Nat.le_refl _) _
  have hA2 : w.heap.size < w0.heap.size := by rw [hw0]; simp
  have HKC : Hid (∀ j, j < 6 → w0.cell? ⟨w.heap.size, j, none⟩ = some (.int .u8 (K j))) := Lib.hid (fun j hj => by
    rw [hw0, cell_of_row _ _ _ _ _ (0, 0) (heap_alloc_new w _)]
    have : j = 0 ∨ j = 1 ∨ j = 2 ∨ j = 3 ∨ j = 4 ∨ j = 5 := by omega
    rcases this with rfl | rfl | rfl | rfl | rfl | rfl <;> rfl)
  have HC0 := Lib.hid (HC.out.keep hA)
  have HA := Lib.hid (And.intro hA hA2)
  have HW0 := Lib.hid hw0
  clear hA hA2 hw0
  cases h1 : isPm n f
  · have H1 := Lib.hid h1
    clear h1
    go_enter Try.func16, Try.ntmps16
    go_wp2_with fail
    rw [← HW0.out]
    refine (pSettings_no n cap ao f _ hn HC0.out H1.out).mono ?_
    rintro e w1 ⟨rfl, hb⟩
    have HC1 := Lib.hid (HC0.out.keep hb)
    have HB1 := Lib.hid (HA.out.1.trans (hb.mono HA.out.1.size))
    clear hb
    go_wp2_with fail
    refine (rIsPerm_any n cap ao f _ hn HC1.out).mono ?_
    rw [H1.out]
    rintro e w2 ⟨rfl, hb⟩
    have HB2 := Lib.hid (HB1.out.trans (hb.mono HB1.out.size))
    clear hb
    go_wp2_with fail
    refine (straight_any _).mono ?_
    rintro e wz ⟨rfl, hb⟩
    have DZ := HB2.out.trans (hb.mono HB2.out.size)
    clear hb
    go_wp2_with fail
    go_returns
    exact ⟨rfl, DZ⟩
  obtain ⟨k, hk, hnk, hlv, q, P, hfp⟩ := pm_of h1
  subst hnk
  have H1 := Lib.hid h1
  have HLV := Lib.hid hlv
  have HF := Lib.hid hfp
  have HPM := Lib.hid P
  have HKK := Lib.hid hk
  have hcp := cn_pos k
  have hs16 := sz_le hk
  have hsp := sz_pos k
  clear h1 hlv hfp P
  go_enter Try.func16, Try.ntmps16
  go_wp2_with fail
  rw [← HW0.out]
  refine (pSettings_ok (sz k) cap ao f _ hn HC0.out H1.out).mono ?_
  unfold SetR
  rw [HLV.out]
  rintro e w1 ⟨⟨b, c1, s, rfl, hcc, hcm, hBL, hout⟩, hb⟩
  have HS1 := Lib.hid hBL
  have HO := Lib.hid hout
  have HCC := Lib.hid (And.intro hcc hcm)
  have HC1 := Lib.hid (HC0.out.keep hb)
  have HB1 := Lib.hid (HA.out.1.trans (hb.mono HA.out.1.size))
  have HK1 : Hid (∀ j, j < 6 → w1.cell? ⟨w.heap.size, j, none⟩ = some (.int .u8 (K j))) := Lib.hid (fun j hj => (hb.cell (p := ⟨w.heap.size, j, none⟩) HA.out.2).trans (HKC.out j hj))
  obtain ⟨t, ht⟩ : ∃ t : Nat → Bool, (fun j => s (mi k j)) = t := ⟨_, rfl⟩
  have HBK : Hid (∀ i, i < sz k → out t k 0 (out s k 0 i) = i) := Lib.hid (fun i hi => back k 0 0 i hi (fun j hj => by rw [Nat.zero_add, Nat.zero_add]; exact (congrFun ht j).symm))
  have HT := Lib.hid ht
  clear hcc hcm hBL hout hb ht HC0 HKC
  go_wp2_with fail
  refine (pThrough_ok k c1 _ s _ hk HS1.out.bools).mono ?_
  rintro e w2 ⟨⟨g2, c2, rfl, hW, hgB2, hs2⟩, hb⟩
  have HP2 := Lib.hid hW
  have HC2 := Lib.hid (HC1.out.keep hb)
  have HS2 := Lib.hid (HS1.out.keep hb)
  have HB2 := Lib.hid (HB1.out.trans (hb.mono HB1.out.size))
  have HK2 : Hid (∀ j, j < 6 → w2.cell? ⟨w.heap.size, j, none⟩ = some (.int .u8 (K j))) := Lib.hid (fun j hj => (hb.cell (p := ⟨w.heap.size, j, none⟩) (World.block_lt_of_cell? w1 _ (HK1.out j hj))).trans (HK1.out j hj))
  clear hW hb hgB2 hs2 HC1 HS1 HB1 HK1
  go_wp2_with fail
  refine (pMirror_ok k c1 b 0 s _ hk HCC.out.1 HCC.out.2 HS2.out).mono ?_
  unfold MirR
  rw [HT.out]
  rintro e w3 ⟨⟨g3, c3, rfl, hW, hgB3, hs3, hcc3, hmm3⟩, hb⟩
  have HM3 := Lib.hid hW
  have HP3 := Lib.hid (HP2.out.keep hb)
  have HC3 := Lib.hid (HC2.out.keep hb)
  have HB3 := Lib.hid (HB2.out.trans (hb.mono HB2.out.size))
  have HK3 : Hid (∀ j, j < 6 → w3.cell? ⟨w.heap.size, j, none⟩ = some (.int .u8 (K j))) := Lib.hid (fun j hj => (hb.cell (p := ⟨w.heap.size, j, none⟩) (World.block_lt_of_cell? w2 _ (HK2.out j hj))).trans (HK2.out j hj))
  clear hW hb hgB3 hs3 hcc3 hmm3 HC2 HS2 HB2 HK2 HP2
  go_wp2_with fail
  refine (pThrough_ok k c3 _ t _ hk HM3.out.bools).mono ?_
  rintro e w4 ⟨⟨g4, c4, rfl, hW, hgB4, hs4⟩, hb⟩
  have HQ4 := Lib.hid hW
  have HP4 := Lib.hid (HP3.out.keep hb)
  have HC4 := Lib.hid (HC3.out.keep hb)
  have HB4 := Lib.hid (HB3.out.trans (hb.mono HB3.out.size))
  have HK4 : Hid (∀ j, j < 6 → w4.cell? ⟨w.heap.size, j, none⟩ = some (.int .u8 (K j))) := Lib.hid (fun j hj => (hb.cell (p := ⟨w.heap.size, j, none⟩) (World.block_lt_of_cell? w3 _ (HK3.out j hj))).trans (HK3.out j hj))
  clear hW hb hgB4 hs4 HC3 HB3 HK3 HP3 HM3
  have hne : (((sz k : Nat) : Int) != ((sz k : Nat) : Int)) = false := by simp
  go_wp2_with fail
  go_loopw [11] (fun iv wr => ∃ (i : Nat), iv = .int .i64 (i : Int) ∧ i ≤ sz k ∧ Hid (Below w4.heap.size w4 wr)) (fun iv _ => sz k - (intOf iv).toNat)
  case atStart => exact ⟨0, rfl, by omega, Lib.hid (Below.refl _ _)⟩
  case round =>
    obtain ⟨i, rfl, hi, HB⟩ := hrel
    by_cases hlt : i < sz k
    · have hlt' : (i : Int) < ((sz k : Nat) : Int) := by omega
      have i00 : (0 : Int) ≤ (i : Int) := by omega
      have it : (i : Int).toNat = i := by omega
      obtain ⟨x, hx⟩ : ∃ x, out s k 0 i = x := ⟨_, rfl⟩
      have hxl : x < sz k := by rw [← hx]; exact out_lt s k 0 i hlt
      have hxi : (x : Int) < ((sz k : Nat) : Int) := by omega
      have x00 : (0 : Int) ≤ (x : Int) := by omega
      have xt : (x : Int).toNat = x := by omega
      have c0 := ((HP4.out.keep HB.out) i hlt).1
      rw [show ouF s k i = (x : Int) by unfold ouF; rw [hx]] at c0
      have d0 := ((HQ4.out.keep HB.out) x hxl).1
      rw [show ouF t k x = (i : Int) by unfold ouF; rw [← hx, HBK.out i hlt]] at d0
      obtain ⟨bp, op, hao, hcell⟩ := (HC4.out.keep HB.out) (by omega)
      have e0 := hcell i hlt
      rw [HF.out i hlt, ← HO.out i hlt, hx] at e0
      subst hao
      have hq : ((i : Int) != (i : Int)) = false := by simp
      have hqx : ((x : Int) != (x : Int)) = false := by simp
      have HBR := Lib.hid HB.out
      have HI := Lib.hid (And.intro hi hlt)
      have i16 : (i : Int) < 16 := by omega
      clear hx HB hcell hi hlt
      go_wp2_with fail
      go_quiet (fail)
      go_wp2_with fail
      go_roundw
      case rel => exact ⟨i + 1, by first | rfl | go_num, by have h8 := HI.out; omega, Lib.hid (drewN_below HBR.out)⟩
      case measure => have h8 := HI.out; first | (simp [intOf]; done) | (simp [intOf]; omega)
    · have hik : i = sz k := by omega
      subst hik
      have hnl : ¬ (((sz k : Nat) : Int) < ((sz k : Nat) : Int)) := Int.lt_irrefl _
      have HB5 := Lib.hid (HB4.out.trans (HB.out.mono HB4.out.size))
      have HK5 : Hid (∀ j, j < 6 → wr.cell? ⟨w.heap.size, j, none⟩ = some (.int .u8 (K j))) := Lib.hid (fun j hj => (HB.out.cell (p := ⟨w.heap.size, j, none⟩) (World.block_lt_of_cell? w4 _ (HK4.out j hj))).trans (HK4.out j hj))
      obtain ⟨w5, hw5⟩ : ∃ w5, w5 = wr := ⟨_, rfl⟩
      subst hw5
      clear HB HB4 HK4 HP4 HQ4 HC4 hi hlt hne
      obtain ⟨i0, hi0, hz0, hz1, hz2⟩ := info_parts infoInt
      have HIN := Lib.hid (And.intro hi0 (And.intro hz0 (And.intro hz1 hz2)))
      clear hi0 hz0 hz1 hz2
      obtain ⟨G, hG⟩ : ∃ G : Nat → Int, G = fun j => K j % 3 := ⟨_, rfl⟩
      have HG3 : Hid (∀ j, j < 6 → 0 ≤ G j ∧ G j ≤ 2) := Lib.hid (fun j hj => by rw [hG]; dsimp only; omega)
      have HGK : Hid (∀ j, K j % 3 = G j) := Lib.hid (fun j => by rw [hG])
      clear hG
      go_wp2_with fail
      go_loopw [12, 13, 14] (fun lv fv iv wr => ∃ (V : Value) (fr i : Nat), V = lv ∧ fv = .int .i64 (fr : Int) ∧ iv = .int .i64 (i : Int) ∧ i ≤ 6 ∧ Hid (fr = frN G i) ∧ Hid (wr.ownsRow w5.heap.size 3 1 V i (cellsI G i)) ∧ Hid (Below w5.heap.size w5 wr)) (fun _ _ iv _ => 6 - (intOf iv).toNat)
      case atStart => exact ⟨_, 1, 0, rfl, rfl, rfl, by omega, Lib.hid rfl, Lib.hid (World.ownsRow_nil _ _ _ _), Lib.hid (Below.refl _ _)⟩
      case round =>
        obtain ⟨V, fr, i, rfl, rfl, rfl, hi, HFR, HO, HB⟩ := hrel
        by_cases hlt : i < 6
        · have hlt' : (i : Int) < 6 := by omega
          have i00 : (0 : Int) ≤ (i : Int) := by omega
          have it : (i : Int).toNat = i := by omega
          have c0 := (HB.out.cell (p := ⟨w.heap.size, i, none⟩) (World.block_lt_of_cell? w5 _ (HK5.out i hlt))).trans (HK5.out i hlt)
          obtain ⟨x, hx⟩ : ∃ x, K i = x := ⟨_, rfl⟩
          rw [hx] at c0
          have hx0 : 0 ≤ x ∧ x ≤ 255 := by rw [← hx]; exact HK.out i hlt
          have hx1 := hx0.1
          have hx2 := hx0.2
          have HI := Lib.hid (And.intro hi hlt)
          obtain ⟨y, hy⟩ : ∃ y, G i = y := ⟨_, rfl⟩
          have hxy : x % 3 = y := by rw [← hx, HGK.out i, hy]
          have HGY := Lib.hid hy
          have hfr : fr ≤ 64 := by
            have h1 := HFR.out
            have h2 := frN_le G i
            have h3 : 2 ^ i ≤ 2 ^ 6 := Nat.pow_le_pow_right (by omega) (by omega)
            omega
          have hfr' : (fr : Int) ≤ 64 := by omega
          have HOA := Lib.hid (HO.out.alloc (.cells #[.int .i64 y] 3))
          have HB5' := HB.out.size
          have hl5 := HB5.out.size
          have HLE : Hid (w5.heap.size ≤ wr.heap.size) := Lib.hid HB5'
          have HX := Lib.hid hx
          clear hi hlt hx0 hx hy HO HB5' hl5 hfr
          by_cases hy0 : y = 0
          · have HF2 : Hid (2 * fr = frN G (i + 1)) := Lib.hid (by rw [frN_yes (HGY.out.trans hy0), HFR.out])
            subst hy0
            go_wp2_with (at_builtin; refine wpList_append_own _ rfl (.tmp 120) (.tmp 126) 28 rfl w5.heap.size 3 i0 _ 1 8 Try.underlying28 HIN.out.1 HIN.out.2.1 HIN.out.2.2.1 HIN.out.2.2.2 rfl (by decide) V i (cellsI G i) rfl HOA.out ⟨wr.heap.size, 0, none⟩ 1 1 [.int .i64 0] rfl rfl ?d1a ?d2a ?d3a ?d4a ?d5a ?_)
            try (case d1a => exact fun j u hu => World.news_of_block (cs := #[.int .i64 0]) (heap_new wr _) j u hu)
            try (case d2a => first | (intro u hu; simp only [List.mem_cons, List.not_mem_nil, or_false] at hu; subst hu; rfl) | rfl)
            try (case d3a => unfold maxLen; have := HI.out; omega)
            try (case d4a => have := HI.out; omega)
            try (case d5a => have := HLE.out; simp; omega)
            intro V2 w6 hown hgr _
            have HO6 : Hid (w6.ownsRow w5.heap.size 3 1 V2 (i + 1) (cellsI G (i + 1))) := Lib.hid (by rw [cellsI_succ, HGY.out]; exact hown)
            have HB6 : Hid (Below w5.heap.size w5 w6) := Lib.hid ((HB.out.alloc HB.out.size _).grown hgr (by have := HLE.out; simp; omega) (fun p hp => (HOA.out.lt p hp).1))
            have c1 := (HB6.out.cell (p := ⟨w.heap.size, i, none⟩) (World.block_lt_of_cell? w5 _ (HK5.out i HI.out.2))).trans (HK5.out i HI.out.2)
            rw [HX.out] at c1
            clear hown hgr HOA HB c0
            go_wp2_with fail
            go_roundw
            case rel => exact ⟨_, 2 * fr, i + 1, rfl, by first | rfl | go_num, by first | rfl | go_num, by have h8 := HI.out; omega, HF2, HO6, HB6⟩
            case measure => have h8 := HI.out; first | (simp [intOf]; done) | (simp [intOf]; omega)
          · have HF2 : Hid (fr = frN G (i + 1)) := Lib.hid (by rw [frN_no (by rw [HGY.out]; exact hy0), HFR.out])
            go_wp2_with (at_builtin; refine wpList_append_own _ rfl (.tmp 120) (.tmp 126) 28 rfl w5.heap.size 3 i0 _ 1 8 Try.underlying28 HIN.out.1 HIN.out.2.1 HIN.out.2.2.1 HIN.out.2.2.2 rfl (by decide) V i (cellsI G i) rfl HOA.out ⟨wr.heap.size, 0, none⟩ 1 1 [.int .i64 y] rfl rfl ?d1b ?d2b ?d3b ?d4b ?d5b ?_)
            try (case d1b => exact fun j u hu => World.news_of_block (cs := #[.int .i64 y]) (heap_new wr _) j u hu)
            try (case d2b => first | (intro u hu; simp only [List.mem_cons, List.not_mem_nil, or_false] at hu; subst hu; rfl) | rfl)
            try (case d3b => unfold maxLen; have := HI.out; omega)
            try (case d4b => have := HI.out; omega)
            try (case d5b => have := HLE.out; simp; omega)
            intro V2 w6 hown hgr _
            have HO6 : Hid (w6.ownsRow w5.heap.size 3 1 V2 (i + 1) (cellsI G (i + 1))) := Lib.hid (by rw [cellsI_succ, HGY.out]; exact hown)
            have HB6 : Hid (Below w5.heap.size w5 w6) := Lib.hid ((HB.out.alloc HB.out.size _).grown hgr (by have := HLE.out; simp; omega) (fun p hp => (HOA.out.lt p hp).1))
            have c1 := (HB6.out.cell (p := ⟨w.heap.size, i, none⟩) (World.block_lt_of_cell? w5 _ (HK5.out i HI.out.2))).trans (HK5.out i HI.out.2)
            rw [HX.out] at c1
            clear hown hgr HOA HB c0
            go_wp2_with fail
            go_roundw
            case rel => exact ⟨_, fr, i + 1, rfl, by first | rfl | go_num, by first | rfl | go_num, by have h8 := HI.out; omega, HF2, HO6, HB6⟩
            case measure => have h8 := HI.out; first | (simp [intOf]; done) | (simp [intOf]; omega)
        · have hi6 : i = 6 := by omega
          subst hi6
          obtain ⟨gs, cs, rfl, _, _, hcs1, hcs2⟩ := own_fm HO.out (by omega)
          have HSW : Hid (Intw wr gs 6 G) := Lib.hid (Intw.of_own HO.out fun q hq => cellsI_get G hq)
          have HCS := Lib.hid (And.intro hcs1 hcs2)
          have HB6 := Lib.hid (HB5.out.trans (HB.out.mono HB5.out.size))
          have hfr64 : fr ≤ 64 := by
            have h1 := HFR.out
            have h2 := frN_le G 6
            omega
          have HFR6 := Lib.hid (HFR.out.trans (free_sum HG3.out).symm)
          have hst : stB G 6 = true := stB_iff.2 fun j hj => HG3.out j hj
          have hst2 : (stB G 6 && decide (6 = cn (lv (((4 : Nat) : Int))))) = true := by rw [hst]; rfl
          have HST := Lib.hid (And.intro hst hst2)
          have hcs0 : csE ((sz 1 : Nat) : Int) 6 G = 0 := by rw [csE_sz 1 6 G (by omega), if_pos (show (stB G 6 && decide (6 = cn 1)) = true by rw [hst]; rfl)]
          have HLV2 : Hid (lsV (4 : Int) 6 G = (((lsT 1 G 24 : Nat) : Int), 0)) := Lib.hid (lsV_sz 1 6 G (by omega) hcs0)
          clear hi hlt HO HB HB5 HK5 hcs1 hcs2 hst hst2 hcs0
          go_wp2_with fail
          refine (rPerms_any 4 (by omega) _).mono ?_
          rintro e w7 ⟨⟨gl, cl, top, A, C, rfl, hV⟩, hB⟩
          have HV := Lib.hid hV
          have HSW7 := Lib.hid (HSW.out.keep hB)
          have HB7 := Lib.hid (HB6.out.trans (hB.mono HB6.out.size))
          obtain ⟨M, hM⟩ : ∃ M, fc 4 = M := ⟨_, rfl⟩
          have hM24 : M = 24 := by rw [← hM]; rfl
          rw [hM] at HV
          rw [hM]
          have HM := Lib.hid (And.intro hM hM24)
          clear hV hB hM hM24 HB6 HSW
          go_wp2_with fail
          go_loopw [15, 16, 18] (fun sv nv iv wr => ∃ (sm nn t : Nat), sv = .int .i64 (sm : Int) ∧ nv = .int .i64 (nn : Int) ∧ iv = .int .i64 (t : Int) ∧ t ≤ M ∧ Hid (sm = wsT G t) ∧ Hid (nn = lsT 1 G t) ∧ Hid (Below w7.heap.size w7 wr)) (fun _ _ iv _ => M - (intOf iv).toNat)
          case atStart => exact ⟨0, 0, 0, rfl, rfl, rfl, Nat.zero_le _, Lib.hid rfl, Lib.hid rfl, Lib.hid (Below.refl _ _)⟩
          case round =>
            obtain ⟨sm, nn, t3, rfl, rfl, rfl, ht, HSM, HNN, HB⟩ := hrel
            by_cases hlt : t3 < M
            · have hlt' : (t3 : Int) < (M : Int) := by omega
              have t00 : (0 : Int) ≤ (t3 : Int) := by omega
              have tt : (t3 : Int).toNat = t3 := by omega
              have t24 : (t3 : Int) < 24 := by have := HM.out; omega
              have hnn : nn ≤ 24 := by have h1 := HNN.out; have h2 := lsT_le 1 G t3; have h3 := HM.out; omega
              have hnn' : (nn : Int) ≤ 24 := by omega
              have HT := Lib.hid (And.intro ht hlt)
              have HVl := Lib.hid (HV.out.keep HB.out)
              have c0 : wr.cell? ⟨gl, t3, none⟩ = some (.slice (A t3) 4 (C t3)) := (HVl.out.own.cellAt t3 (by omega)).trans (rowsN_get A _ C hlt)
              have hgl : gl < wr.heap.size := World.block_lt_of_cell? wr _ c0
              have hp : isPm 4 (prF 4 t3) = true := prF_isPm 1 (by omega) t3 (by have := HM.out; rw [show fc (sz 1) = 24 from rfl]; omega)
              have HP : Hid (isPm 4 (prF 4 t3) = true) := Lib.hid hp
              have HRI := Lib.hid ((HVl.out.row t3 hlt).ints)
              have HS8 := Lib.hid (HSW7.out.keep HB.out)
              obtain ⟨v, hv⟩ : ∃ v, wN 1 (fun j => (prF 4 t3 j).toNat) G = v := ⟨_, rfl⟩
              have HVV := Lib.hid hv
              have hs1 : wsT G (t3 + 1) = sm + v := by rw [HSM.out, ← hv]; rfl
              have hs2 : wsT G (t3 + 1) ≤ 64 := by
                have h1 := wsT_mono G (t := t3 + 1) (u := 24) (by have := HM.out; omega)
                have h2 := HFR6.out
                omega
              have hsm : (sm : Int) + (v : Int) ≤ 64 := by omega
              have HS1 := Lib.hid hs1.symm
              have hwy : wyV 4 6 (prF 4 t3) G = ((v : Int), 0) := by rw [wyV_ok hp HST.out.2, ← hv]; rfl
              have hae : arE 4 6 (prF 4 t3) G = if 0 < v then 0 else 5 := by
                unfold arE
                rw [if_pos hp, if_pos HST.out.2, ← hv]
                rfl
              have HWY := Lib.hid hwy
              have HAE := Lib.hid hae
              clear ht hlt hp hv hs1 hs2 hwy hae hnn
              by_cases hv0 : v = 0
              · subst hv0
                have HN2 : Hid (nn + 1 = lsT 1 G (t3 + 1)) := Lib.hid (by rw [lsT_yes (k := 1) HVV.out, HNN.out])
                have HS2 : Hid (sm = wsT G (t3 + 1)) := Lib.hid (by have := HS1.out; omega)
                have hsm' : (sm : Int) ≤ 64 := by omega
                clear hsm
                go_wp2_with fail
                refine (pWays_any 4 (C t3) 6 cs (A t3) (some ⟨gs, 0, none⟩) (prF 4 t3) G _ (by omega) (by omega) HCS.out.1 HCS.out.2 HRI.out HS8.out.ints).mono ?_
                rw [HWY.out]
                rintro e w8 ⟨rfl, hb⟩
                have HB8 := Lib.hid (HB.out.trans (hb.mono HB.out.size))
                have c1 := (hb.cell (p := ⟨gl, t3, none⟩) hgl).trans c0
                have HRI8 := Lib.hid (HRI.out.keep hb)
                have HS9 := Lib.hid (HS8.out.keep hb)
                clear hb c0 HB HRI HS8
                go_wp2_with fail
                refine (pAround_any 4 (C t3) 6 cs (A t3) (some ⟨gs, 0, none⟩) (prF 4 t3) G _ (by omega) (by omega) HCS.out.1 HCS.out.2 HRI8.out HS9.out.ints).mono ?_
                unfold ArnR
                rw [HAE.out, if_neg (Nat.lt_irrefl 0)]
                rintro e w9 ⟨⟨ao', l, cap', rfl, _, _⟩, hb⟩
                have HB9 := Lib.hid (HB8.out.trans (hb.mono HB8.out.size))
                clear hb HB8 c1 HRI8 HS9 HVl
                go_wp2_with fail
                go_roundw
                case rel => exact ⟨sm, nn + 1, t3 + 1, by first | rfl | go_num, by first | rfl | go_num, by first | rfl | go_num, by have h8 := HT.out; omega, HS2, HN2, HB9⟩
                case measure => have h8 := HT.out; first | (simp [intOf]; done) | (simp [intOf]; omega)
              · have hv1 : 0 < v := by omega
                have hv0' : ¬ (v : Int) = 0 := by omega
                have hv1' : ¬ (v : Int) < 0 := by omega
                have hvb : ((v : Int) == 0) = false := beq_eq_false_iff_ne.2 hv0'
                have hvd : decide ((v : Int) = 0) = false := decide_eq_false hv0'
                have hve : (v == 0) = false := beq_eq_false_iff_ne.2 (by omega)
                have HN2 : Hid (nn = lsT 1 G (t3 + 1)) := Lib.hid (by rw [lsT_no (k := 1) (by rw [show wN 1 (fun j => (prF (sz 1) t3 j).toNat) G = v from HVV.out]; exact hv0), HNN.out])
                have HV1 := Lib.hid hv1
                clear hv0 hv1
                go_wp2_with fail
                refine (pWays_any 4 (C t3) 6 cs (A t3) (some ⟨gs, 0, none⟩) (prF 4 t3) G _ (by omega) (by omega) HCS.out.1 HCS.out.2 HRI.out HS8.out.ints).mono ?_
                rw [HWY.out]
                rintro e w8 ⟨rfl, hb⟩
                have HB8 := Lib.hid (HB.out.trans (hb.mono HB.out.size))
                have c1 := (hb.cell (p := ⟨gl, t3, none⟩) hgl).trans c0
                have hgl8 : gl < w8.heap.size := World.block_lt_of_cell? w8 _ c1
                have HRI8 := Lib.hid (HRI.out.keep hb)
                have HS9 := Lib.hid (HS8.out.keep hb)
                clear hb c0 HB HRI HS8 hgl
                go_wp2_with fail
                refine (pAround_any 4 (C t3) 6 cs (A t3) (some ⟨gs, 0, none⟩) (prF 4 t3) G _ (by omega) (by omega) HCS.out.1 HCS.out.2 HRI8.out HS9.out.ints).mono ?_
                unfold ArnR
                rw [HAE.out, if_pos HV1.out]
                rintro e w9 ⟨⟨ao', l, cap', rfl, _, hyes⟩, hb⟩
                obtain ⟨bs, s9, rfl, rfl, hl1, hl2, hBL, hout, hag⟩ := hyes rfl
                have HB9 := Lib.hid (HB8.out.trans (hb.mono HB8.out.size))
                have c2 := (hb.cell (p := ⟨gl, t3, none⟩) hgl8).trans c1
                have HRI9 := Lib.hid (HRI8.out.keep hb)
                have HS10 := Lib.hid (HS9.out.keep hb)
                have HBL := Lib.hid hBL
                have HAG := Lib.hid hag
                have HSD : Hid (sdE 4 6 (prF 4 t3) = 0) := Lib.hid (by unfold sdE; rw [if_pos HP.out]; rfl)
                have HSV : Hid (sdV 4 6 (prF 4 t3) s9 = true) := Lib.hid (by
                  unfold sdV
                  rw [if_pos HSD.out]
                  exact same_of (fun j hj => by
                    obtain ⟨q, _, hf⟩ := pm_q HP.out
                    rw [hf j hj, ← hout j hj]
                    rfl))
                clear hb HB8 c1 HRI8 HS9 HVl hyes hBL hout hag hgl8 hl1 hl2
                go_wp2_with fail
                refine (pSends_any 4 (C t3) 6 cap' (A t3) (some ⟨bs, 0, none⟩) (prF 4 t3) s9 _ (by omega) HRI9.out (by omega) HBL.out.bools).mono ?_
                rw [HSD.out, HSV.out]
                rintro e w10 ⟨rfl, hb⟩
                have HB10 := Lib.hid (HB9.out.trans (hb.mono HB9.out.size))
                have HS11 := Lib.hid (HS10.out.keep hb)
                have HBL10 := Lib.hid (HBL.out.keep hb)
                clear hb HB9 c2 HRI9 HS10 HBL
                go_wp2_with fail
                refine (fits_any 6 cap' cs (some ⟨bs, 0, none⟩) (some ⟨gs, 0, none⟩) s9 G _ (by omega) HBL10.out.bools HS11.out.ints).mono ?_
                rw [HAG.out]
                rintro e w11 ⟨rfl, hb⟩
                have HB11 := Lib.hid (HB10.out.trans (hb.mono HB10.out.size))
                clear hb HB10 HS11 HBL10
                go_wp2_with fail
                go_roundw
                case rel => exact ⟨sm + v, nn, t3 + 1, by first | rfl | go_num, by first | rfl | go_num, by first | rfl | go_num, by have h8 := HT.out; omega, HS1, HN2, HB11⟩
                case measure => have h8 := HT.out; first | (simp [intOf]; done) | (simp [intOf]; omega)
            · have htM : t3 = M := by omega
              have hm24 : M = 24 := HM.out.2
              have hsf : fr = sm := by have h1 := HFR6.out; have h2 := HSM.out; rw [htM, hm24] at h2; omega
              have HLS : Hid (lsV (4 : Int) 6 G = ((nn : Int), 0)) := Lib.hid (by rw [HLV2.out, HNN.out, htM, hm24])
              have HS8 := Lib.hid (HSW7.out.keep HB.out)
              have HBX := Lib.hid (HB7.out.trans (HB.out.mono HB7.out.size))
              subst htM
              subst hsf
              have hnl : ¬ ((t3 : Int) < (t3 : Int)) := Int.lt_irrefl _
              clear ht hlt hm24 HV HB HSW7 HB7 HNN HSM HFR HFR6 HM
              go_wp2_with fail
              refine (pLost_any 4 6 cs (some ⟨gs, 0, none⟩) G _ (by omega) HCS.out.1 HCS.out.2 HS8.out.ints).mono ?_
              rw [HLS.out]
              rintro e w12 ⟨rfl, hb⟩
              have HB12 := Lib.hid (HBX.out.trans (hb.mono HBX.out.size))
              clear hb HBX HS8
              go_wp2_with fail
              refine (straight_any _).mono ?_
              rintro e wz ⟨rfl, hb⟩
              have DZ := HB12.out.trans (hb.mono HB12.out.size)
              clear hb
              go_wp2_with fail
              go_returns
              exact ⟨rfl, DZ⟩
end Go.Proofs.Ytfilofnkiocbeaa
