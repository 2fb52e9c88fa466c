import Derived.Test.YtdhlikedjephmaaKn
import Derived.Test.YtdhlikedjephmaaHd
namespace Heat
open Go Go.RowKit
def chB (n : Nat) (x y : Int) : Bool := decide (0 ≤ x ∧ x < n ∧ 0 ≤ y ∧ y ≤ 1000)
def chIn (n : Nat) (P Q : Nat → Int) : Nat → Bool
  | 0 => true
  | k + 1 => chIn n P Q k && chB n (P k) (Q k)
theorem chIn_stop {n : Nat} {P Q : Nat → Int} {k : Nat} (h : chB n (P k) (Q k) = false) : ∀ m, k < m → chIn n P Q m = false := by
  intro m
  induction m with
  | zero => intro hk; omega
  | succ j ih =>
    intro hk
    show (chIn n P Q j && chB n (P j) (Q j)) = false
    by_cases e : k = j
    · subst e; rw [h, Bool.and_false]
    · rw [ih (by omega), Bool.false_and]
theorem chIn_next {n : Nat} {P Q : Nat → Int} {k : Nat} (h : chIn n P Q k = true) (h1 : chB n (P k) (Q k) = true) : chIn n P Q (k + 1) = true := by
  show (chIn n P Q k && chB n (P k) (Q k)) = true
  rw [h, h1]; rfl
theorem pad_sum {n : Nat} (f : Nat → Int) (h : n ≤ 5) : padI n f 0 + padI n f 1 + padI n f 2 + padI n f 3 + padI n f 4 = sumI f n := by
  rcases (show n = 0 ∨ n = 1 ∨ n = 2 ∨ n = 3 ∨ n = 4 ∨ n = 5 by omega) with rfl | rfl | rfl | rfl | rfl | rfl <;> simp [padI, sumI]
theorem pad_bd {n : Nat} {f : Nat → Int} (h : inTo f 0 1000 n = true) (j : Nat) : (padI n f j).natAbs ≤ 1000 := by
  unfold padI
  split
  · have := inTo_iff.1 h j (by assumption); omega
  · decide
end Heat
namespace Go.Proofs.Ytdhlikedjephmaa
open Go.RowKit Heat
/-- The powers behind the first i changes. -/
def chg (f P Q : Nat → Int) : Nat → Nat → Int
  | 0 => f
  | i + 1 => updI (chg f P Q i) (P i).toNat (Q i)
/-- The greatest sum of them. -/
def pkT (n : Nat) (f P Q : Nat → Int) : Nat → Int
  | 0 => sumI f n
  | i + 1 => max (pkT n f P Q i) (sumI (chg f P Q (i + 1)) n)
theorem chg_in {n : Nat} {f P Q : Nat → Int} (hf : inTo f 0 1000 n = true) : ∀ i, chIn n P Q i = true → inTo (chg f P Q i) 0 1000 n = true
  | 0, _ => hf
  | i + 1, h => by
    have h' : (chIn n P Q i && chB n (P i) (Q i)) = true := h
    rw [Bool.and_eq_true] at h'
    have hi := inTo_iff.1 (chg_in hf i h'.1)
    have hb := of_decide_eq_true h'.2
    refine inTo_iff.2 fun k hk => ?_
    show 0 ≤ updI (chg f P Q i) (P i).toNat (Q i) k ∧ updI (chg f P Q i) (P i).toNat (Q i) k ≤ 1000
    unfold updI
    split
    · omega
    · exact hi k hk
theorem pkT_bd {n : Nat} {f P Q : Nat → Int} (hn : n ≤ 5) (hf : inTo f 0 1000 n = true) : ∀ i, chIn n P Q i = true → 0 ≤ pkT n f P Q i ∧ pkT n f P Q i ≤ 5000
  | 0, _ => by have := sumI_bd hf; unfold pkT; omega
  | i + 1, h => by
    have h' : (chIn n P Q i && chB n (P i) (Q i)) = true := h
    rw [Bool.and_eq_true] at h'
    have h1 := pkT_bd hn hf i h'.1
    have h2 := sumI_bd (chg_in hf (i + 1) h)
    unfold pkT
    omega
def pkE (n : Nat) (f : Nat → Int) (m : Nat) (P Q : Nat → Int) : Int := if ((decide (1 ≤ n ∧ n ≤ 5) && inTo f 0 1000 n) && decide (m ≤ 100) && chIn n P Q m) = true then 0 else 2
def pkV (n : Nat) (f : Nat → Int) (m : Nat) (P Q : Nat → Int) : Int := if pkE n f m P Q = 0 then pkT n f P Q m else 0
theorem pk_bad {n : Nat} {f : Nat → Int} {m : Nat} {P Q : Nat → Int} (h : ((decide (1 ≤ n ∧ n ≤ 5) && inTo f 0 1000 n) && decide (m ≤ 100) && chIn n P Q m) = false) : pkV n f m P Q = 0 ∧ pkE n f m P Q = 2 := by
  have e : pkE n f m P Q = 2 := by unfold pkE; rw [h]; rfl
  exact ⟨by unfold pkV; rw [e]; rfl, e⟩
theorem pk_ok {n : Nat} {f : Nat → Int} {m : Nat} {P Q : Nat → Int} (h : (decide (1 ≤ n ∧ n ≤ 5) && inTo f 0 1000 n) = true) (h1 : m ≤ 100) (h2 : chIn n P Q m = true) : pkV n f m P Q = pkT n f P Q m ∧ pkE n f m P Q = 0 := by
  have e : pkE n f m P Q = 0 := by unfold pkE; rw [h, decide_eq_true h1, h2]; rfl
  exact ⟨by unfold pkV; rw [e]; rfl, e⟩
theorem pad_upd {n k : Nat} (f : Nat → Int) (hk : k < n) (y : Int) : updI (padI n f) k y = padI n (updI f k y) := by
  funext j
  by_cases e : j = k
  · subst e; simp [updI, padI, hk]
  · simp [updI, padI, e]
set_option maxRecDepth 100000 in
set_option maxHeartbeats 8000000 in
theorem hPeak_any (n cap : Nat) (ao : Option Addr) (f : Nat → Int) (m dap : Nat) (bo : Option Addr) (P Q : Nat → Int) (w : World) (hn : n ≤ 9223372036854775807) (hc : Ints w ao n f) (hm : m ≤ 9223372036854775807) (hd : Rats w bo m P Q) :
    Calls Try.prog 20 #[.slice ao n cap, .slice bo m dap] w fun e w' => e = .returned (.tuple #[.int .i64 (pkV n f m P Q), .int .i64 (pkE n f m P Q)]) ∧ Below w.heap.size w w' := by
  have HC := Lib.hid hc
  have HD := Lib.hid hd
  clear hc hd
  obtain ⟨bb, hbb⟩ : ∃ bb, (decide (1 ≤ n ∧ n ≤ 5) && inTo f 0 1000 n) = bb := ⟨_, rfl⟩
  have HBB := Lib.hid hbb
  clear hbb
  go_enter Try.func20, Try.ntmps20
  go_wp2_with fail
  refine (areSome_any n cap ao f _ hn HC.out).mono ?_
  rw [HBB.out]
  rintro e w1 ⟨rfl, hb⟩
  have D1 : Below w.heap.size w w1 := hb
  clear hb
  cases bb with
  | false =>
    have HE : Hid (pkV n f m P Q = 0 ∧ pkE n f m P Q = 2) := Lib.hid (pk_bad (by rw [HBB.out]; rfl))
    go_wp2_with fail
    refine bodyPost_ret (v := .tuple #[.int .i64 0, .int .i64 2]) (by simp [results, Try.results20, go_sem]) rfl ⟨by rw [HE.out.1, HE.out.2], by go_grown⟩
  | true =>
    by_cases h100 : 100 < (m : Int)
    · have HE : Hid (pkV n f m P Q = 0 ∧ pkE n f m P Q = 2) := Lib.hid (pk_bad (by rw [HBB.out, decide_eq_false (by omega)]; rfl))
      go_wp2_with fail
      refine bodyPost_ret (v := .tuple #[.int .i64 0, .int .i64 2]) (by simp [results, Try.results20, go_sem]) rfl ⟨by rw [HE.out.1, HE.out.2], by go_grown⟩
    have HLE : Hid (1 ≤ n ∧ n ≤ 5) := Lib.hid (of_decide_eq_true (Bool.and_eq_true _ _ ▸ HBB.out).1)
    have HFI : Hid (inTo f 0 1000 n = true) := Lib.hid (Bool.and_eq_true _ _ ▸ HBB.out).2
    have hn5 := HLE.out.2
    go_wp2_with fail
    refine (held_any n cap ao f _ hn5 (HC.out.keep D1)).mono ?_
    rintro e w2 ⟨rfl, hb⟩
    have D2 : Below w.heap.size w w2 := D1.trans (hb.mono D1.size)
    clear hb D1
    have hb3 : Below w2.heap.size w2 (w2.alloc (Obj.cells #[.int .i64 (padI n f 0), .int .i64 (padI n f 1), .int .i64 (padI n f 2), .int .i64 (padI n f 3), .int .i64 (padI n f 4)] 74)) := (Below.refl _ _).alloc (Nat.le_refl _) _
    have HW : Hid (Intw (w2.alloc (Obj.cells #[.int .i64 (padI n f 0), .int .i64 (padI n f 1), .int .i64 (padI n f 2), .int .i64 (padI n f 3), .int .i64 (padI n f 4)] 74)) w2.heap.size 5 (padI n (chg f P Q 0))) := Lib.hid (fun j hj => by
      show _ = some (Value.int .i64 (padI n f j)) ∧ _
      rcases (show j = 0 ∨ j = 1 ∨ j = 2 ∨ j = 3 ∨ j = 4 by omega) with rfl | rfl | rfl | rfl | rfl <;> exact ⟨by go_cell, by go_cell⟩)
    have HB3 : Hid (Below w.heap.size w (w2.alloc (Obj.cells #[.int .i64 (padI n f 0), .int .i64 (padI n f 1), .int .i64 (padI n f 2), .int .i64 (padI n f 3), .int .i64 (padI n f 4)] 74))) := Lib.hid (D2.trans (hb3.mono D2.size))
    have hg : w.heap.size ≤ w2.heap.size := D2.size
    have hs3 : w2.heap.size < (w2.alloc (Obj.cells #[.int .i64 (padI n f 0), .int .i64 (padI n f 1), .int .i64 (padI n f 2), .int .i64 (padI n f 3), .int .i64 (padI n f 4)] 74)).heap.size := by simp
    clear D2 hb3
    go_upto_region 4 with fail
    generalize (w2.alloc (Obj.cells #[.int .i64 (padI n f 0), .int .i64 (padI n f 1), .int .i64 (padI n f 2), .int .i64 (padI n f 3), .int .i64 (padI n f 4)] 74)) = W3 at *
    generalize w2.heap.size = g at *
    obtain ⟨⟨q0, _⟩, ⟨q1, _⟩, ⟨q2, _⟩, ⟨q3, _⟩, ⟨q4, _⟩⟩ : _ ∧ _ ∧ _ ∧ _ ∧ _ := ⟨HW.out 0 (by omega), HW.out 1 (by omega), HW.out 2 (by omega), HW.out 3 (by omega), HW.out 4 (by omega)⟩
    go_wp2_with fail
    refine (listSum_any _ _ _ _ _ _ (by have := pad_bd HFI.out 0; exact Nat.le_trans this (by decide)) (by have := pad_bd HFI.out 1; exact Nat.le_trans this (by decide)) (by have := pad_bd HFI.out 2; exact Nat.le_trans this (by decide)) (by have := pad_bd HFI.out 3; exact Nat.le_trans this (by decide)) (by have := pad_bd HFI.out 4; exact Nat.le_trans this (by decide))).mono ?_
    rintro e w4 ⟨rfl, hb⟩
    rw [show padI n (chg f P Q 0) 0 + padI n (chg f P Q 0) 1 + padI n (chg f P Q 0) 2 + padI n (chg f P Q 0) 3 + padI n (chg f P Q 0) 4 = pkT n f P Q 0 from pad_sum f hn5]
    have HW4 := Lib.hid (HW.out.keep hb)
    have HB4 := Lib.hid (HB3.out.trans (hb.mono HB3.out.size))
    have hs4 : g < w4.heap.size := by have := hb.size; omega
    clear hb HW HB3 hs3 q0 q1 q2 q3 q4
    obtain ⟨t0, ht0⟩ : ∃ t0, pkT n f P Q 0 = t0 := ⟨_, rfl⟩
    rw [ht0]
    have HT0 : Hid (t0 = pkT n f P Q 0) := Lib.hid ht0.symm
    clear ht0
    go_wp2_with fail
    go_loopw [7, 26] (fun pv iv wr => ∃ (t z : Int) (i : Nat), pv = .int .i64 t ∧ iv = .int .i64 z ∧ z = i ∧ i ≤ m ∧ Hid (t = pkT n f P Q i) ∧ Hid (chIn n P Q i = true) ∧ Hid (Intw wr g 5 (padI n (chg f P Q i))) ∧ Hid (Below w.heap.size w wr) ∧ g < wr.heap.size) (fun _ iv _ => m - (intOf iv).toNat)
    case atStart => exact ⟨t0, 0, 0, rfl, rfl, by omega, by omega, HT0, Lib.hid rfl, HW4, HB4, hs4⟩
    case round =>
      obtain ⟨t, z, i, rfl, rfl, hz, hi, HT, HS, HW, HB, hsw⟩ := hrel
      by_cases hlt : i < m
      · have hlt' : z < (m : Int) := by omega
        subst hz
        have i00 : (0 : Int) ≤ (i : Int) := by omega
        have wz : wrap64 ((i : Int) + 1) = (i : Int) + 1 := by simp only [wrap64]; omega
        obtain ⟨b, o, rfl, hcell⟩ := (HD.out.keep HB.out) (by omega)
        obtain ⟨g0, g1⟩ := hcell i hlt
        have hbz := World.block_lt_of_cell? _ _ g0
        have hbl := HB.out
        have hblz := hbl.size
        clear hcell HW4 HB4 hs4 HT0
        obtain ⟨x, hx⟩ : ∃ x, P i = x := ⟨_, rfl⟩
        obtain ⟨y, hy⟩ : ∃ y, Q i = y := ⟨_, rfl⟩
        have HX := Lib.hid hx
        have HY := Lib.hid hy
        rw [hx] at g0
        rw [hy] at g1
        clear hx hy
        by_cases c1 : x < 0
        · have HE : Hid (pkV n f m P Q = 0 ∧ pkE n f m P Q = 2) := Lib.hid (pk_bad (by rw [chIn_stop (k := i) (by rw [HX.out, HY.out]; exact decide_eq_false (by omega)) m hlt, Bool.and_false]))
          clear HW HB HS HT
          go_wp2_with fail
          go_region
          go_wp2_with fail
          refine bodyPost_ret (v := .tuple #[.int .i64 0, .int .i64 2]) (by simp [results, Try.results20, go_sem]) rfl ⟨by rw [HE.out.1, HE.out.2], by go_grown⟩
        by_cases c2 : (n : Int) ≤ x
        · have HE : Hid (pkV n f m P Q = 0 ∧ pkE n f m P Q = 2) := Lib.hid (pk_bad (by rw [chIn_stop (k := i) (by rw [HX.out, HY.out]; exact decide_eq_false (by omega)) m hlt, Bool.and_false]))
          clear HW HB HS HT
          go_wp2_with fail
          go_region
          go_wp2_with fail
          refine bodyPost_ret (v := .tuple #[.int .i64 0, .int .i64 2]) (by simp [results, Try.results20, go_sem]) rfl ⟨by rw [HE.out.1, HE.out.2], by go_grown⟩
        by_cases c3 : y < 0
        · have HE : Hid (pkV n f m P Q = 0 ∧ pkE n f m P Q = 2) := Lib.hid (pk_bad (by rw [chIn_stop (k := i) (by rw [HX.out, HY.out]; exact decide_eq_false (by omega)) m hlt, Bool.and_false]))
          clear HW HB HS HT
          go_wp2_with fail
          go_region
          go_wp2_with fail
          refine bodyPost_ret (v := .tuple #[.int .i64 0, .int .i64 2]) (by simp [results, Try.results20, go_sem]) rfl ⟨by rw [HE.out.1, HE.out.2], by go_grown⟩
        by_cases c4 : 1000 < y
        · have HE : Hid (pkV n f m P Q = 0 ∧ pkE n f m P Q = 2) := Lib.hid (pk_bad (by rw [chIn_stop (k := i) (by rw [HX.out, HY.out]; exact decide_eq_false (by omega)) m hlt, Bool.and_false]))
          clear HW HB HS HT
          go_wp2_with fail
          go_region
          go_wp2_with fail
          refine bodyPost_ret (v := .tuple #[.int .i64 0, .int .i64 2]) (by simp [results, Try.results20, go_sem]) rfl ⟨by rw [HE.out.1, HE.out.2], by go_grown⟩
        have HS2 : Hid (chIn n P Q (i + 1) = true) := Lib.hid (chIn_next HS.out (by rw [HX.out, HY.out]; exact decide_eq_true (by omega)))
        obtain ⟨k, rfl⟩ : ∃ k : Nat, x = k := ⟨x.toNat, by omega⟩
        have hkn : k < n := by omega
        have hk5 : (k : Int) < 5 := by omega
        have hk0 : (0 : Int) ≤ (k : Int) := by omega
        obtain ⟨m0, m1⟩ := HW.out k (by omega)
        have hs0 : g < (wr.setCell ⟨g, k, none⟩ (.int .i64 y)).heap.size := by simpa using hsw
        have HWa := HW.out.store (j := k) (by omega) y
        rw [pad_upd _ hkn, show updI (chg f P Q i) k y = chg f P Q (i + 1) by show _ = updI (chg f P Q i) (P i).toNat (Q i); rw [HX.out, HY.out, Int.toNat_natCast]] at HWa
        have HWs : Hid (Intw (((wr.setCell ⟨g, k, none⟩ (.int .i64 y)).alloc (Obj.cells #[.int .i64 k, .int .i64 y] 33)).drew) g 5 (padI n (chg f P Q (i + 1)))) := Lib.hid (HWa.keep ((Below.refl _ _).alloc (Nat.le_refl _) _).drew)
        have HBa := hbl.setCell (p := ⟨g, k, none⟩) (by simp only; omega) (.int .i64 y)
        have HBs : Hid (Below w.heap.size w (((wr.setCell ⟨g, k, none⟩ (.int .i64 y)).alloc (Obj.cells #[.int .i64 k, .int .i64 y] 33)).drew)) := Lib.hid (HBa.trans (((Below.refl _ _).alloc (Nat.le_refl _) _).drew.mono HBa.size))
        have hss : g < (((wr.setCell ⟨g, k, none⟩ (.int .i64 y)).alloc (Obj.cells #[.int .i64 k, .int .i64 y] 33)).drew).heap.size := by simp; omega
        have hnk : ¬ n ≤ k := by omega
        clear HWa HBa hs0 HB hbl hblz HW HS
        go_wp2_with fail
        go_region
        go_upto_region 12 with fail
        generalize ((wr.setCell ⟨g, k, none⟩ (.int .i64 y)).alloc (Obj.cells #[.int .i64 k, .int .i64 y] 33)).drew = wv at *
        clear m0 m1 g0 g1 hbz hsw
        obtain ⟨⟨q0, _⟩, ⟨q1, _⟩, ⟨q2, _⟩, ⟨q3, _⟩, ⟨q4, _⟩⟩ : _ ∧ _ ∧ _ ∧ _ ∧ _ := ⟨HWs.out 0 (by omega), HWs.out 1 (by omega), HWs.out 2 (by omega), HWs.out 3 (by omega), HWs.out 4 (by omega)⟩
        have HIN := Lib.hid (chg_in HFI.out (i + 1) HS2.out)
        go_wp2_with fail
        refine (listSum_any _ _ _ _ _ _ (by have := pad_bd HIN.out 0; exact Nat.le_trans this (by decide)) (by have := pad_bd HIN.out 1; exact Nat.le_trans this (by decide)) (by have := pad_bd HIN.out 2; exact Nat.le_trans this (by decide)) (by have := pad_bd HIN.out 3; exact Nat.le_trans this (by decide)) (by have := pad_bd HIN.out 4; exact Nat.le_trans this (by decide))).mono ?_
        rintro e w5 ⟨rfl, hb⟩
        rw [pad_sum (chg f P Q (i + 1)) hn5]
        have HW5 := Lib.hid (HWs.out.keep hb)
        have HB5 := Lib.hid (HBs.out.trans (hb.mono HBs.out.size))
        have hs5 : g < w5.heap.size := by have := hb.size; omega
        clear hb HWs HBs hss q0 q1 q2 q3 q4
        obtain ⟨s, hs⟩ : ∃ s, sumI (chg f P Q (i + 1)) n = s := ⟨_, rfl⟩
        rw [hs]
        have HT2 : Hid (pkT n f P Q (i + 1) = max t s) := Lib.hid (by rw [HT.out, ← hs]; rfl)
        clear hs
        by_cases hts : t < s
        · have hts2 : ¬ s ≤ t := by omega
          have hts3 : t ≤ s := by omega
          have HT3 : Hid (s = pkT n f P Q (i + 1)) := Lib.hid (by rw [HT2.out]; omega)
          go_wp2_with fail
          go_roundw
          case rel => exact ⟨s, (i : Int) + 1, i + 1, by first | rfl | simp [hts, hts2, hts3], by first | rfl | rw [wz], by omega, by omega, HT3, HS2, HW5, HB5, hs5⟩
          case measure => first | (simp [intOf]; done) | (simp [intOf]; omega)
        · have hts2 : s ≤ t := by omega
          have HT3 : Hid (t = pkT n f P Q (i + 1)) := Lib.hid (by rw [HT2.out]; omega)
          go_wp2_with fail
          go_roundw
          case rel => exact ⟨t, (i : Int) + 1, i + 1, by first | rfl | simp [hts, hts2], by first | rfl | rw [wz], by omega, by omega, HT3, HS2, HW5, HB5, hs5⟩
          case measure => first | (simp [intOf]; done) | (simp [intOf]; omega)
      · obtain rfl : i = m := by omega
        have HE : Hid (pkV n f i P Q = t ∧ pkE n f i P Q = 0) := Lib.hid (by rw [HT.out]; exact pk_ok HBB.out (by omega) HS.out)
        have hbl := HB.out
        clear HT HS HW
        go_wp2_with fail
        refine bodyPost_ret (v := .tuple #[.int .i64 t, .int .i64 0]) (by simp [results, Try.results20, go_sem]) rfl ⟨by rw [HE.out.1, HE.out.2], by go_grown⟩
end Go.Proofs.Ytdhlikedjephmaa
