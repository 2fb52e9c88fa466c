import Derived.Test.YtkkcnhhfdicppaaIu7
import Derived.Test.YtkkcnhhfdicppaaCe7
import Derived.Test.YtkkcnhhfdicppaaPw7
import Derived.Test.YtkkcnhhfdicppaaRv7
import Derived.Test.YtkkcnhhfdicppaaFa7
import Derived.Test.YtkkcnhhfdicppaaPh7
import Derived.Test.YtkkcnhhfdicppaaJe7
import Derived.Deep.QuietTactic
import Derived.BigQuiet
namespace Go.Proofs.Ytkkcnhhfdicppaa
open Go.RowKit Lay
/-- A block that begins with some cells. -/
def CRow (w : World) (g n : Nat) (X Y : Nat → Int) : Prop := ∃ cur : Array Value, w.heap[g]? = some (.cells cur 26 (0, 0)) ∧ n * 2 ≤ cur.size ∧ ∀ i, i < n → cur[i * 2]? = some (.int .i64 (X i)) ∧ cur[i * 2 + 1]? = some (.int .i64 (Y i))
theorem CRow.keep {w w' : World} {g n : Nat} {X Y : Nat → Int} (h : CRow w g n X Y) (e : w'.heap[g]? = w.heap[g]?) : CRow w' g n X Y := by
  obtain ⟨cur, h1, h2⟩ := h
  exact ⟨cur, e.trans h1, h2⟩
theorem CRow.e {w : World} {g n i : Nat} {X Y : Nat → Int} (h : CRow w g n X Y) (hi : i < n) : (w.cell? ⟨g, i * 2, none⟩ = some (.int .i64 (X i)) ∧ w.cell? ⟨g, i * 2 + 1, none⟩ = some (.int .i64 (Y i))) ∧ ∀ j, w.frozen? ⟨g, j, none⟩ = false := by
  obtain ⟨cur, h1, h2, h3⟩ := h
  exact ⟨⟨cell_of_blk h1 (h3 i hi).1, cell_of_blk h1 (h3 i hi).2⟩, fun j => by simp [World.frozen?, h1]⟩
theorem CRow.lt {w : World} {g n : Nat} {X Y : Nat → Int} (h : CRow w g n X Y) : g < w.heap.size := by
  obtain ⟨cur, h1, _⟩ := h
  exact (Array.getElem?_eq_some_iff.1 h1).1
def updV (f : Nat → Int) (i : Nat) (v : Int) : Nat → Int := fun k => if k = i then v else f k
theorem CRow.set2 {w : World} {g n : Nat} {X Y : Nat → Int} (h : CRow w g n X Y) {i : Nat} (hi : i < n) (x y : Int) :
    CRow ((w.setCell ⟨g, i * 2, none⟩ (.int .i64 x)).setCell ⟨g, i * 2 + 1, none⟩ (.int .i64 y)) g n (updV X i x) (updV Y i y) := by
  obtain ⟨cur, h1, h2, h3⟩ := h
  refine ⟨_, blk_set (blk_set h1 _) _, by simpa using h2, fun k hk => ?_⟩
  obtain ⟨a, b⟩ := h3 k hk
  have hl : k * 2 + 1 < cur.size := by omega
  unfold updV
  by_cases e : k = i
  · subst e
    rw [if_pos rfl, if_pos rfl]
    refine ⟨?_, ?_⟩
    · rw [Array.getElem?_setIfInBounds_ne (by omega), Array.getElem?_setIfInBounds_self, if_pos (by omega)]
    · rw [Array.getElem?_setIfInBounds_self, if_pos (by simp; omega)]
  · rw [if_neg e, if_neg e]
    refine ⟨?_, ?_⟩
    · rw [Array.getElem?_setIfInBounds_ne (by omega), Array.getElem?_setIfInBounds_ne (by omega)]; exact a
    · rw [Array.getElem?_setIfInBounds_ne (by omega), Array.getElem?_setIfInBounds_ne (by omega)]; exact b
/-- Turned round, as far as k from both ends. -/
def revK (X : Nat → Int) (n k : Nat) : Nat → Int := fun i => if i < k ∨ n ≤ i + k ∧ i < n then X (n - 1 - i) else X i
theorem revK_next {X : Nat → Int} {n k : Nat} (hk : 2 * k + 1 < n) : updV (updV (revK X n k) k (revK X n k (n - 1 - k))) (n - 1 - k) (revK X n k k) = revK X n (k + 1) := by
  funext i
  unfold updV revK
  by_cases h1 : i = n - 1 - k
  · subst h1
    rw [if_pos rfl, if_neg (by omega), if_pos (by omega), show n - 1 - (n - 1 - k) = k by omega]
  · rw [if_neg h1]
    by_cases h2 : i = k
    · subst h2
      rw [if_pos rfl, if_neg (by omega), if_pos (by omega)]
    · rw [if_neg h2]
      by_cases h3 : i < k ∨ n ≤ i + k ∧ i < n
      · rw [if_pos h3, if_pos (by omega)]
      · rw [if_neg h3, if_neg (by omega)]
theorem revK_end {X : Nat → Int} {n k : Nat} (hk : n ≤ 2 * k + 1) : ∀ i, i < n → revK X n k i = X (n - 1 - i) := by
  intro i hi
  unfold revK
  by_cases h : i < k ∨ n ≤ i + k ∧ i < n
  · rw [if_pos h]
  · rw [if_neg h, show n - 1 - i = i by omega]
set_option maxRecDepth 100000 in
set_option maxHeartbeats 8000000 in
theorem reverse_any (g n cap : Nat) (X Y : Nat → Int) (w : World) (h1 : 1 ≤ n) (h9 : n ≤ 1000) (hr : CRow w g n X Y) :
    Calls Try.prog 83 #[.slice (some ⟨g, 0, none⟩) n cap] w fun e w' => e = .returned (.tuple #[]) ∧ CRow w' g n (fun i => X (n - 1 - i)) (fun i => Y (n - 1 - i)) ∧ Oth (fun k => k = g) w w' := by
  have HR := Lib.hid hr
  clear hr
  go_enter Try.func83, Try.ntmps83
  go_wp2_with fail
  go_loopg [2, 3] n (fun gg v2 v3 wr => ∃ k j : Nat, v2 = .int .i64 k ∧ v3 = .int .i64 j ∧ k + j + 1 = n ∧ 2 * k ≤ n ∧ Hid (n - k ≤ gg) ∧ Hid (CRow wr g n (revK X n k) (revK Y n k)) ∧ Hid (Oth (fun k => k = g) w wr))
  case atStart => exact ⟨0, n - 1, rfl, by rw [show ((n - 1 : Nat) : Int) = (n : Int) - 1 by omega], by omega, by omega, Lib.hid (by omega), Lib.hid (by
    have e : ∀ f : Nat → Int, revK f n 0 = f := fun f => by funext i; unfold revK; rw [if_neg (by omega)]
    rw [e, e]; exact HR.out), Lib.hid (Oth.refl _ _)⟩
  case round =>
    obtain ⟨k, j, rfl, rfl, hkj, hk2, HG, HC, HO⟩ := hrel
    clear HR
    by_cases hlt : k < j
    case neg =>
      have hlt' : ¬ (k : Int) < (j : Int) := by omega
      have HC2 : Hid (CRow wr g n (fun i => X (n - 1 - i)) (fun i => Y (n - 1 - i))) := Lib.hid (by
        obtain ⟨cur, c1, c2, c3⟩ := HC.out
        refine ⟨cur, c1, c2, fun i hi => ?_⟩
        have := c3 i hi
        rw [revK_end (by omega) i hi, revK_end (by omega) i hi] at this
        exact this)
      clear HC
      go_wp2_with fail
      go_end0
      exact ⟨rfl, HC2.out, HO.out⟩
    have hlt' : (k : Int) < (j : Int) := by omega
    have HGG : Hid (n - k ≤ gk) := Lib.hid HG.out
    obtain ⟨⟨a0, a1⟩, fr⟩ := HC.out.e (i := k) (by omega)
    obtain ⟨⟨b0, b1⟩, _⟩ := HC.out.e (i := j) (by omega)
    obtain ⟨xk, hxk⟩ : ∃ z, revK X n k k = z := ⟨_, rfl⟩
    obtain ⟨yk, hyk⟩ : ∃ z, revK Y n k k = z := ⟨_, rfl⟩
    obtain ⟨xj, hxj⟩ : ∃ z, revK X n k j = z := ⟨_, rfl⟩
    obtain ⟨yj, hyj⟩ : ∃ z, revK Y n k j = z := ⟨_, rfl⟩
    rw [hxk] at a0
    rw [hyk] at a1
    rw [hxj] at b0
    rw [hyj] at b1
    have HX := Lib.hid (And.intro hxk (And.intro hyk (And.intro hxj hyj)))
    clear hxk hyk hxj hyj HG
    have n00 : ¬ j * 2 = k * 2 := by omega
    have m00 : ¬ k * 2 = j * 2 := by omega
    have n01 : ¬ j * 2 = k * 2 + 1 := by omega
    have m01 : ¬ k * 2 + 1 = j * 2 := by omega
    have n10 : ¬ j * 2 + 1 = k * 2 := by omega
    have m10 : ¬ k * 2 = j * 2 + 1 := by omega
    have n11 : ¬ j * 2 + 1 = k * 2 + 1 := by omega
    have m11 : ¬ k * 2 + 1 = j * 2 + 1 := by omega
    have hkn : (k : Int) < (n : Int) := by omega
    have hjn : (j : Int) < (n : Int) := by omega
    go_upto_region 3 with fail
    go_region
    obtain ⟨w9, hw9⟩ : ∃ z, z = ((((wr.setCell ⟨g, k * 2, none⟩ (.int .i64 xj)).setCell ⟨g, k * 2 + 1, none⟩ (.int .i64 yj)).setCell ⟨g, j * 2, none⟩ (.int .i64 xk)).setCell ⟨g, j * 2 + 1, none⟩ (.int .i64 yk)).drew := ⟨_, rfl⟩
    have HC9 : Hid (CRow w9 g n (revK X n (k + 1)) (revK Y n (k + 1))) := Lib.hid (by
      have h := (HC.out.set2 (i := k) (by omega) xj yj).set2 (i := j) (by omega) xk yk
      obtain ⟨e1, e2, e3, e4⟩ := HX.out
      rw [← e1, ← e2, ← e3, ← e4, show j = n - 1 - k by omega, revK_next (by omega), revK_next (by omega)] at h
      rw [hw9, ← e1, ← e2, ← e3, ← e4, show j = n - 1 - k by omega]
      exact h)
    have HO9 : Hid (Oth (fun k => k = g) w w9) := Lib.hid (by rw [hw9]; exact (((((HO.out.set rfl _ _).set rfl _ _).set rfl _ _).set rfl _ _)).drew)
    rw [← hw9]
    clear hw9 HC HO a0 a1 b0 b1 fr n00 m00 n01 m01 n10 m10 n11 m11
    go_wp2_with fail
    go_roundg (n - (k + 1))
    case measure => have := HGG.out; omega
    case rel => exact ⟨k + 1, j - 1, by go_num, by rw [show ((j - 1 : Nat) : Int) = (j : Int) - 1 by omega], by omega, by omega, Lib.hid (Nat.le_refl _), HC9, HO9⟩
set_option maxRecDepth 100000 in
set_option maxHeartbeats 8000000 in
theorem pTurned_ok (n cp : Nat) (ao : Option Addr) (X Y : Nat → Int) (w : World) (h1 : 1 ≤ n) (h9 : n ≤ 1000) (hc : XYs w ao n X Y) :
    Calls Try.prog 66 #[.slice ao n cp] w fun e w' => ∃ al cl, e = .returned (.tuple #[.slice al n cl, .int .i64 0]) ∧ XYs w' al n (fun i => X (n - 1 - i)) (fun i => Y (n - 1 - i)) ∧ Below w.heap.size w w' := by
  have HC := Lib.hid hc
  clear hc
  have hd1 : (1 : Int) ≤ n := by omega
  have hd2 : (n : Int) ≤ 1000 := by omega
  go_enter Try.func66, Try.ntmps66
  go_wp2_with fail
  refine (fits_any n cp ao _ (by omega)).mono ?_
  rw [decide_eq_true (show 1 ≤ n ∧ n ≤ 1000 by omega)]
  rintro e w0 ⟨rfl, hw0⟩
  rw [hw0]
  clear hw0
  go_wp2_with fail
  refine (clone_any n cp ao X Y _ h1 (by omega) HC.out).mono ?_
  rintro e w1 ⟨v, rfl, hown, hb⟩
  obtain ⟨_, ⟨_, hn0⟩ | ⟨g, cap, cur, rfl, hbg, hg, hnc, _, hcs, ht⟩⟩ := hown
  · omega
  have HCR : Hid (CRow w1 g n X Y) := Lib.hid ⟨cur, hg, by rw [hcs]; exact Nat.mul_le_mul_right _ hnc, fun i hi => by
    have key : ∀ j u, j < n * 2 → (xyC (prL X Y n))[j]? = some u → cur[j]? = some u := fun j u hj hu => by
      rw [← ht, List.getElem?_take_of_lt hj, Array.getElem?_toList] at hu
      exact hu
    obtain ⟨a, b⟩ := xyC_get (prL X Y n) i (X i, Y i) (by unfold prL; rw [List.getElem?_map, List.getElem?_range hi]; rfl)
    exact ⟨key _ _ (by omega) a, key _ _ (by omega) b⟩⟩
  have HB1 : Hid (Below w.heap.size w w1) := Lib.hid hb
  clear hg hnc hcs ht hb
  go_wp2_with fail
  refine (reverse_any g n cap X Y _ h1 h9 HCR.out).mono ?_
  rintro e w2 ⟨rfl, hcr, ho⟩
  have HB2 : Hid (Below w.heap.size w w2) := Lib.hid (HB1.out.trans (ho.below HB1.out.size (fun k hk => by omega)))
  have HXY : Hid (XYs w2 (some ⟨g, 0, none⟩) n (fun i => X (n - 1 - i)) (fun i => Y (n - 1 - i))) := Lib.hid (fun _ => ⟨g, 0, rfl, fun i hi => by
    obtain ⟨⟨a, b⟩, _⟩ := hcr.e hi
    rw [Nat.zero_add]
    exact ⟨a, b⟩⟩)
  clear ho hcr HB1 HCR
  go_wp2_with fail
  refine bodyPost_ret (v := .tuple #[.slice (some ⟨g, 0, none⟩) n cap, .int .i64 0]) (by simp [results, Try.results66, go_sem]) rfl ⟨_, _, rfl, HXY.out, HB2.out⟩
end Go.Proofs.Ytkkcnhhfdicppaa

namespace Lay
/-- Two cells beside each other. -/
theorem far3 {K : Int → Int → Bool} {F : Int → Int → Int → Option Int} (hK : ∀ x y, K x y = false) (h : Costs 2 1 K 3 0 1 0 F) : farS F 0 1 0 0 0 = 3 := by
  have hop : opB 2 1 K 0 0 = true := opB_iff.2 ⟨by omega, hK 0 0⟩
  have hw : Wk (opB 2 1 K) 3 0 1 0 0 0 0 3 := Wk.base 0 0 0 (by omega) (by omega) hop rfl rfl
  have hf : ∃ u, F 0 0 0 = some u ∧ u ≤ 3 := by
    obtain ⟨u, hu⟩ := (h.1 0 0 0).2 3 hw
    exact ⟨u, hu, ((h.1 0 0 0).1 u hu).2 3 hw⟩
  obtain ⟨u, hu, hu3⟩ := hf
  unfold farS
  rw [if_neg (by omega)]
  rcases chN_is F 0 0 0 (-1) 4 with ⟨_, h2⟩ | ⟨d, v, h0, h4, hv, he, hm, _⟩
  · rw [h2 0 (by omega) (by omega)] at hu; cases hu
  · have he' : chp F 0 0 0 (-1) = (d, v + bd 0 (-1) d) := he
    rw [he']
    simp only
    rw [if_neg (by omega), hv]
    have hlow := (((h.1 0 0 d).1 v hv).1).low (by omega) (by omega)
    have := hm 0 u (by omega) (by omega) hu
    have hb0 : ∀ d, bd 0 (-1) d = 0 := fun d => by unfold bd; split <;> rfl
    rw [hb0, hb0] at this
    show v = 3
    omega
end Lay
namespace Go.Proofs.Ytkkcnhhfdicppaa
open Go.RowKit Lay
set_option maxRecDepth 100000 in
set_option maxHeartbeats 1000000 in
theorem tOn_any (W H M B x y : Int) (sl : Value) (_hs : sl.oneCell' = true) (w : World) :
    Calls Try.prog 35 #[.agg #[.int .i64 W, .int .i64 H, .int .i64 M, .int .i64 B, sl], .agg #[.int .i64 x, .int .i64 y]] w fun e w' => e = .returned (.bool (onB W H x y)) ∧ Below w.heap.size w w' := by
  by_cases h1 : 0 ≤ x
  case neg =>
    go_enter Try.func35, Try.ntmps35
    go_wp2_with fail
    refine bodyPost_ret (v := .bool false) (by simp [results, Try.results35, go_sem]) rfl ⟨by simp [onB]; omega, by go_grown⟩
  by_cases h2 : x < W
  case neg =>
    go_enter Try.func35, Try.ntmps35
    go_wp2_with fail
    refine bodyPost_ret (v := .bool false) (by simp [results, Try.results35, go_sem]) rfl ⟨by simp [onB]; omega, by go_grown⟩
  by_cases h3 : 0 ≤ y
  case neg =>
    go_enter Try.func35, Try.ntmps35
    go_wp2_with fail
    refine bodyPost_ret (v := .bool false) (by simp [results, Try.results35, go_sem]) rfl ⟨by simp [onB]; omega, by go_grown⟩
  by_cases h4 : y < H
  case neg =>
    go_enter Try.func35, Try.ntmps35
    go_wp2_with fail
    refine bodyPost_ret (v := .bool false) (by simp [results, Try.results35, go_sem]) rfl ⟨by simp [onB]; omega, by go_grown⟩
  go_enter Try.func35, Try.ntmps35
  go_wp2_with fail
  refine bodyPost_ret (v := .bool true) (by simp [results, Try.results35, go_sem]) rfl ⟨by simp [onB, h1, h2, h3, h4], by go_grown⟩
set_option maxRecDepth 100000 in
set_option maxHeartbeats 4000000 in
/-- The sanity check of layer 7. -/
theorem guided_any (w : World) :
    Calls Try.prog 34 #[] w fun e w' => e = .returned (.bool true) ∧ Below w.heap.size w w' := by
  go_enter Try.func34, Try.ntmps34
  go_wp2_with fail
  refine (pFar_ok 2 1 3 0 1 0 0 0 2 none (fun _ => 0) (fun _ => 0) _ (fun h => absurd h (by omega)) (by decide) (by decide) (by decide)).mono ?_
  rintro e w1 ⟨v, F, rfl, hF, hown, hb⟩
  have h3 := far3 (fun _ _ => rfl) hF
  obtain ⟨a, c, rfl, hi⟩ := own_ints hown
  obtain ⟨b, o, rfl, hcell⟩ := hi (by omega)
  have c0 := hcell 0 (by omega)
  have e0 : farS F 0 1 0 ((0 % (2 : Int).toNat : Nat) : Int) ((0 / (2 : Int).toNat : Nat) : Int) = 3 := h3
  simp only [e0, Nat.add_zero] at c0
  have HB := Lib.hid hb
  clear hb hown hi hcell h3 e0 hF
  go_wp2_with fail
  refine bodyPost_ret (v := .bool true) (by simp [results, Try.results34, go_sem]) rfl ⟨rfl, HB.out⟩
end Go.Proofs.Ytkkcnhhfdicppaa

namespace Go.Proofs.Ytkkcnhhfdicppaa
open Go.RowKit Lay
set_option maxRecDepth 100000 in
set_option maxHeartbeats 8000000 in
theorem pCost_no (W H M B : Int) (nb cb : Nat) (ao : Option Addr) (XB YB : Nat → Int) (n cp : Nat) (ap : Option Addr) (X Y : Nat → Int) (w : World) (E : Int) (hE : rdE (vaG W H M B nb XB YB) 1 (chE W H (blkN XB YB nb) X Y n) = E) (hne : E ≠ 0)
    (hn : nb ≤ 9223372036854775807) (hc : XYs w ao nb XB YB) (hnp : n ≤ 1000000) (hp : XYs w ap n X Y) (hr : R2 X Y n) :
    Calls Try.prog 19 #[.agg #[.int .i64 W, .int .i64 H, .int .i64 M, .int .i64 B, .slice ao nb cb], .slice ap n cp] w fun e w' => e = .returned (.tuple #[.int .i64 0, .int .i64 0, .int .i64 0, .int .i64 E]) ∧ Below w.heap.size w w' := by
  have HC := Lib.hid hc
  have HP := Lib.hid hp
  have HR := Lib.hid hr
  clear hc hp hr
  have HE := Lib.hid hE
  clear hE
  go_enter Try.func19, Try.ntmps19
  go_wp2_with fail
  refine (readPath_no W H M B nb cb ao XB YB n cp ap X Y _ E HE.out hne hn (HC.out.keep (by go_grown)) hnp (HP.out.keep (by go_grown)) HR.out).mono ?_
  rintro e w1 ⟨rfl, hb⟩
  have hbl : Below w.heap.size w w1 := Below.trans (by go_grown) (hb.mono (by simp))
  have heb : (E != 0) = true := bne_iff_ne.2 hne
  clear hb
  go_wp2_with fail
  refine bodyPost_ret (v := .tuple #[.int .i64 0, .int .i64 0, .int .i64 0, .int .i64 E]) (by simp [results, Try.results19, go_sem]) rfl ⟨rfl, hbl.alloc hbl.size _⟩
set_option maxRecDepth 100000 in
set_option maxHeartbeats 8000000 in
theorem pCost_ok (W H M B : Int) (nb cb : Nat) (ao : Option Addr) (XB YB : Nat → Int) (n cp : Nat) (ap : Option Addr) (X Y : Nat → Int) (w : World) (hv : vaG W H M B nb XB YB = true) (hE : chE W H (blkN XB YB nb) X Y n = 0)
    (hn : nb ≤ 9223372036854775807) (hc : XYs w ao nb XB YB) (hnp : n ≤ 1000000) (hp : XYs w ap n X Y) (hr : R2 X Y n) :
    Calls Try.prog 19 #[.agg #[.int .i64 W, .int .i64 H, .int .i64 M, .int .i64 B, .slice ao nb cb], .slice ap n cp] w fun e w' => e = .returned (.tuple #[.int .i64 ((n - 1 : Nat) : Int), .int .i64 (beN X Y (n - 1)), .int .i64 (coN M B X Y (n - 1)), .int .i64 0]) ∧ Below w.heap.size w w' := by
  have HC := Lib.hid hc
  have HP := Lib.hid hp
  have HR := Lib.hid hr
  clear hc hp hr
  have HE := Lib.hid hE
  have HV := Lib.hid hv
  have hpa := (chE_ok.1 hE).1
  obtain ⟨⟨hn1, hn2⟩, _⟩ := paB_iff.1 hpa
  obtain ⟨hnum, _⟩ := vaG_num hv
  obtain ⟨l, rfl⟩ : ∃ k, n = k + 1 := ⟨n - 1, by omega⟩
  have hl9 : l < 1000 := by omega
  rw [show l + 1 - 1 = l by omega]
  clear hE hv hpa hn1 hn2
  go_enter Try.func19, Try.ntmps19
  go_wp2_with fail
  refine (readPath_ok W H M B nb cb ao XB YB (l + 1) cp ap X Y _ HV.out HE.out hn (HC.out.keep (by go_grown)) hnp (HP.out.keep (by go_grown)) HR.out).mono ?_
  rintro e w1 ⟨m, rfl, hm1, hM, hb⟩
  have hb1 : Below w.heap.size w w1 := Below.trans (by go_grown) (hb.mono (by simp))
  obtain ⟨b8, hb8⟩ : ∃ z, z = w1.heap.size := ⟨_, rfl⟩
  obtain ⟨w2, hw2⟩ : ∃ z, z = w1.alloc (.cells #[.int .i64 W, .int .i64 H, .int .i64 M, .int .i64 B, .slice ao nb cb, .map (some m)] 68) := ⟨_, rfl⟩
  have hc12 : Below w1.heap.size w1 w2 := by rw [hw2]; exact bal (Below.refl _ _) _
  have KB2 : Hid (w2.heap[b8]? = some (.cells #[.int .i64 W, .int .i64 H, .int .i64 M, .int .i64 B, .slice ao nb cb, .map (some m)] 68 (0, 0))) := Lib.hid (by rw [hw2, hb8]; exact heap_alloc_new w1 _)
  have HB2 : Hid (Below w.heap.size w w2) := Lib.hid (hb1.trans (hc12.mono hb1.size))
  have hz2 : b8 < w2.heap.size := by rw [hw2, hb8]; simp
  have h8 : w.heap.size ≤ b8 := by rw [hb8]; exact hb1.size
  have HW2 := Lib.hid hw2
  have HB8 := Lib.hid hb8
  clear hb hM hm1 hb1 hw2 hb8 hc12
  go_upto_region 2 with fail
  rw [← HW2.out]
  try rw [← HB8.out]
  clear HW2 HB8
  go_wp2_with fail
  refine (waysOf_any l cp ap X Y _ (by omega) (HP.out.keep HB2.out) HR.out).mono ?_
  rintro e w3 ⟨v, rfl, hown, hb⟩
  obtain ⟨av, cv, rfl, hI⟩ := own_ints hown
  have HI3 := Lib.hid hI
  have HB3 : Hid (Below w.heap.size w w3) := Lib.hid (HB2.out.trans (hb.mono HB2.out.size))
  have KB3 : Hid (w3.heap[b8]? = some (.cells #[.int .i64 W, .int .i64 H, .int .i64 M, .int .i64 B, .slice ao nb cb, .map (some m)] 68 (0, 0))) := Lib.hid ((hb.block _ hz2).trans KB2.out)
  have hz3 : b8 < w3.heap.size := by have := hb.size; omega
  clear hb hown hI HB2 KB2 hz2
  go_wp2_with fail
  go_loopg [4, 5, 6, 10, 25] l (fun gg v4 v5 v6 v10 v25 wr => ∃ k : Nat, v25 = .int .i64 k ∧ v4 = .int .i64 k ∧ v5 = .int .i64 (beN X Y k) ∧ v6 = .int .i64 (coN M B X Y k) ∧ v10 = .int .i64 (pvN X Y k) ∧ k ≤ l ∧ Hid (l - k ≤ gg) ∧ Hid (Ints wr av l (wyN X Y)) ∧ Hid (wr.heap[b8]? = some (.cells #[.int .i64 W, .int .i64 H, .int .i64 M, .int .i64 B, .slice ao nb cb, .map (some m)] 68 (0, 0))) ∧ Hid (Below w.heap.size w wr) ∧ b8 < wr.heap.size)
  case atStart => exact ⟨0, rfl, rfl, rfl, rfl, rfl, Nat.zero_le _, Lib.hid (by omega), HI3, KB3, HB3, hz3⟩
  case round =>
    obtain ⟨k, rfl, rfl, rfl, rfl, rfl, hk, HG, HI, KB, HB, hz⟩ := hrel
    clear HI3 KB3 HB3 hz3
    have hbe := beN_le (X := X) (Y := Y) k
    have hco := coN_le (M := M) (B := B) (X := X) (Y := Y) (by omega) (by omega) k
    obtain ⟨be, hbeq⟩ : ∃ z, beN X Y k = z := ⟨_, rfl⟩
    obtain ⟨co, hcoq⟩ : ∃ z, coN M B X Y k = z := ⟨_, rfl⟩
    rw [hbeq] at hbe ⊢
    rw [hcoq] at hco ⊢
    by_cases hlt : k < l
    case neg =>
      obtain rfl : k = l := by omega
      have HRR : Hid (beN X Y k = be ∧ coN M B X Y k = co) := Lib.hid ⟨hbeq, hcoq⟩
      clear hbeq hcoq
      go_wp2_with fail
      refine bodyPost_ret (v := .tuple #[.int .i64 (k : Int), .int .i64 be, .int .i64 co, .int .i64 0]) (by simp [results, Try.results19, go_sem]) rfl ⟨by rw [HRR.out.1, HRR.out.2], HB.out⟩
    have HGG : Hid (l - k ≤ gk) := Lib.hid HG.out
    obtain ⟨bi, oi, rfl, hci⟩ := HI.out (by omega)
    have c0 := hci k hlt
    have hpv : -1 ≤ pvN X Y k ∧ pvN X Y k < 4 := by
      cases k with
      | zero => exact ⟨Int.le_refl _, by show (-1 : Int) < 4; decide⟩
      | succ j => exact wyS_range _ _ _ _
    have hwr := wyS_range (X k) (Y k) (X (k + 1)) (Y (k + 1))
    have hw0 : wyN X Y k = wyS (X k) (Y k) (X (k + 1)) (Y (k + 1)) := rfl
    rw [← hw0] at hwr
    have hn5 : pvN X Y (k + 1) = wyN X Y k := rfl
    have hn6 : beN X Y (k + 1) = beN X Y k + (if pvN X Y k ≠ -1 ∧ wyN X Y k ≠ -1 ∧ pvN X Y k ≠ wyN X Y k then 1 else 0) := rfl
    have hn7 : coN M B X Y (k + 1) = coN M B X Y k + (M + bd B (pvN X Y k) (wyN X Y k)) := rfl
    have hbd := bd_le (B := B) (i := pvN X Y k) (o := wyN X Y k) (by omega)
    obtain ⟨pv, hpvq⟩ : ∃ z, pvN X Y k = z := ⟨_, rfl⟩
    obtain ⟨wy, hwyq⟩ : ∃ z, wyN X Y k = z := ⟨_, rfl⟩
    rw [hpvq, hwyq] at hbd hn6 hn7
    rw [hwyq] at c0 hwr hn5
    rw [hpvq] at hpv ⊢
    rw [hbeq] at hn6
    rw [hcoq] at hn7
    obtain ⟨bw, hbw⟩ : ∃ z, bd B pv wy = z := ⟨_, rfl⟩
    rw [hbw] at hbd hn7
    have HN := Lib.hid (And.intro hn5 (And.intro hn6 (And.intro hn7 hbw)))
    clear hw0 hn5 hn6 hn7 hpvq hwyq hbeq hcoq hbw hci HG
    go_wp2_with fail
    refine (isBend_any pv wy _).mono ?_
    obtain ⟨ib, hib⟩ : ∃ z, decide (pv ≠ -1 ∧ wy ≠ -1 ∧ pv ≠ wy) = z := ⟨_, rfl⟩
    rw [hib]
    have HIB := Lib.hid hib
    clear hib
    rintro e w4 ⟨rfl, hb⟩
    have HI4 := Lib.hid (HI.out.keep hb)
    have KB4 : Hid (w4.heap[b8]? = some (.cells #[.int .i64 W, .int .i64 H, .int .i64 M, .int .i64 B, .slice ao nb cb, .map (some m)] 68 (0, 0))) := Lib.hid ((hb.block _ hz).trans KB.out)
    have HB4 : Hid (Below w.heap.size w w4) := Lib.hid (HB.out.trans (hb.mono HB.out.size))
    have hz4 : b8 < w4.heap.size := by have := hb.size; omega
    have G0 : Hid (∀ w' : World, Below w4.heap.size w4 w' → w'.heap[b8]? = some (.cells #[.int .i64 W, .int .i64 H, .int .i64 M, .int .i64 B, .slice ao nb cb, .map (some m)] 68 (0, 0)) ∧ w'.cell? ⟨b8, 2, none⟩ = some (.int .i64 M)) := Lib.hid (fun w' hb => ⟨(hb.block _ hz4).trans KB4.out, cell_of_blk ((hb.block _ hz4).trans KB4.out) rfl⟩)
    have HQ0 : Below w4.heap.size w4 w4.drew := (Below.refl _ _).drew
    have n1 : IntKind.i64.wrap (M + bw) = M + bw := by rw [IntKind.wrap_i64]; omega
    have n2 : IntKind.i64.wrap (co + (M + bw)) = co + (M + bw) := by rw [IntKind.wrap_i64]; omega
    have n3 : IntKind.i64.wrap (be + 1) = be + 1 := by rw [IntKind.wrap_i64]; omega
    clear hb HI KB HB c0
    cases ib with
    | true =>
      have HBE : Hid (beN X Y (k + 1) = be + 1) := Lib.hid (by rw [HN.out.2.1]; rw [if_pos (of_decide_eq_true HIB.out)])
      go_upto_region 11 with fail
      refine wp_region_held_drew (S := fun w' => w'.heap[b8]? = some (.cells #[.int .i64 W, .int .i64 H, .int .i64 M, .int .i64 B, .slice ao nb cb, .map (some m)] 68 (0, 0)) ∧ w'.cell? ⟨b8, 2, none⟩ = some (.int .i64 M)) (by kernel_rfl) (G0.out _ HQ0) (fun hHeld => ?_)
      refine wpAnyH_take (i := 0) (oi := _) (v := ?_) rfl (by kernel_rfl) (by kernel_rfl) (by kernel_rfl) (fun _ _ _ h => h) (Or.inl ⟨by rfl, ?_⟩) (by assumption) ?_
      rotate_left
      · intro w hSw; obtain ⟨s0, s1⟩ := hSw; go_simp; (try with_reducible rfl)
      try change wpAnyH _ _ _ _ _ _ _ (Act.put _ (some 36) _) _
      try simp only [act_all]
      refine wpAnyH_take (i := 1) (oi := _) (v := ?_) rfl (by kernel_rfl) (by kernel_rfl) (by kernel_rfl) (fun _ _ _ h => h) (Or.inl ⟨by rfl, ?_⟩) (by assumption) ?_
      rotate_left
      · intro w hSw; obtain ⟨s0, s1⟩ := hSw; go_simp; (try with_reducible rfl)
      try change wpAnyH _ _ _ _ _ _ _ (Act.put _ (some 37) _) _
      try simp only [act_all]
      refine wpAnyH_take (i := 2) (oi := _) (v := ?_) rfl (by kernel_rfl) (by kernel_rfl) (by kernel_rfl) (fun _ _ _ h => h) (Or.inl ⟨by rfl, ?_⟩) (by assumption) ?_
      rotate_left
      · intro w hSw; obtain ⟨s0, s1⟩ := hSw; go_simp; (try with_reducible rfl)
      try change wpAnyH _ _ _ _ _ _ _ (Act.put _ (some 38) _) _
      try simp only [act_all]
      refine wpAnyH_take (i := 3) (oi := _) (v := ?_) rfl (by kernel_rfl) (by kernel_rfl) (by kernel_rfl) (fun _ _ _ h => h) (Or.inl ⟨by rfl, ?_⟩) (by assumption) ?_
      rotate_left
      · intro w hSw; obtain ⟨s0, s1⟩ := hSw; go_simp; (try with_reducible rfl)
      try change wpAnyH _ _ _ _ _ _ _ (Act.put _ (some 39) _) _
      try simp only [act_all]
      refine wpAnyH_take (i := 4) (oi := _) (v := _) rfl (by kernel_rfl) (by kernel_rfl) (by kernel_rfl) (fun _ _ _ h => h) (yieldsIf_load_mid (by rfl) 68 _ rfl b8 0 rfl ([.int .i64 W, .int .i64 H, .int .i64 M, .int .i64 B, .slice ao nb cb, .map (some m)]) _ (fun w' hh => range_row hh.1 0 [.int .i64 W, .int .i64 H, .int .i64 M, .int .i64 B, .slice ao nb cb, .map (some m)] (fun j hj => by simp only [Nat.zero_add, List.getElem?_toArray])) Try.underlying68 rfl (by kernel_rfl)) (by assumption) ?_
      try change wpAnyH _ _ _ _ _ _ _ (Act.put _ (some 40) _) _
      try simp only [act_all]
      refine wpAnyH_take (i := 5) (oi := _) (v := ?_) rfl (by kernel_rfl) (by kernel_rfl) (by kernel_rfl) (fun _ _ _ h => h) (Or.inl ⟨by rfl, ?_⟩) (by assumption) ?_
      rotate_left
      · intro w hSw; obtain ⟨s0, s1⟩ := hSw; go_simp; (try with_reducible rfl)
      try change wpAnyH _ _ _ _ _ _ _ (Act.put _ (some 41) _) _
      try simp only [act_all]
      refine wpAnyH_take (i := 6) (oi := _) (v := ?_) rfl (by kernel_rfl) (by kernel_rfl) (by kernel_rfl) (fun _ _ _ h => h) (Or.inl ⟨by rfl, ?_⟩) (by assumption) ?_
      rotate_left
      · intro w hSw; obtain ⟨s0, s1⟩ := hSw; go_simp; (try with_reducible rfl)
      try change wpAnyH _ _ _ _ _ _ _ (Act.put _ (some 42) _) _
      try simp only [act_all]
      refine wpAnyH_ready (rs := [7]) (by kernel_rfl) (by simp) ?_
      refine AllReadyH.cons (o := _) rfl (fun K hK => ?_) AllReadyH.nil
      go_simp
      refine (bend_any W H M B pv wy nb cb m ao _).mono ?_
      rw [HN.out.2.2.2]
      rintro e_ t1 ⟨rfl, hb⟩
      have HQ1 : Below w4.heap.size w4 t1 := HQ0.trans (hb.mono HQ0.size)
      clear hb hHeld
      refine hK.out _ _ (G0.out _ HQ1) (fun hHeld => ?_)
      clear hK K
      try simp only [act_all]
      refine wpAnyH_take (i := 8) (oi := _) (v := ?_) rfl (by kernel_rfl) (by kernel_rfl) (by kernel_rfl) (fun _ _ _ h => h) (Or.inl ⟨by rfl, ?_⟩) (by assumption) ?_
      rotate_left
      · intro w hSw; obtain ⟨s0, s1⟩ := hSw; go_simp; (try with_reducible rfl)
      try change wpAnyH _ _ _ _ _ _ _ (Act.put _ (some 44) _) _
      try simp only [act_all]
      refine wpAnyH_take (i := 9) (oi := _) (v := ?_) rfl (by kernel_rfl) (by kernel_rfl) (by kernel_rfl) (fun _ _ _ h => h) (Or.inl ⟨by rfl, ?_⟩) (by assumption) ?_
      rotate_left
      · intro w hSw; obtain ⟨s0, s1⟩ := hSw; go_simp; (try with_reducible rfl)
      try change wpAnyH _ _ _ _ _ _ _ (Act.put _ (some 45) _) _
      try simp only [act_all]
      refine wpAnyH_take (i := 10) (oi := _) (v := ?_) rfl (by kernel_rfl) (by kernel_rfl) (by kernel_rfl) (fun _ _ _ h => h) (Or.inl ⟨by rfl, ?_⟩) (by assumption) ?_
      rotate_left
      · intro w hSw; obtain ⟨s0, s1⟩ := hSw; go_simp; (try with_reducible rfl)
      try change wpAnyH _ _ _ _ _ _ _ (Act.put _ (some 6) _) _
      try simp only [act_all]
      refine wpAnyH_done (by kernel_rfl) ?_ _
      clear hHeld
      have HI5 := Lib.hid (HI4.out.keep HQ1)
      have KB5 : Hid (t1.heap[b8]? = some (.cells #[.int .i64 W, .int .i64 H, .int .i64 M, .int .i64 B, .slice ao nb cb, .map (some m)] 68 (0, 0))) := Lib.hid (G0.out _ HQ1).1
      have HB5 : Hid (Below w.heap.size w t1) := Lib.hid (HB4.out.trans (HQ1.mono HB4.out.size))
      have hz5 : b8 < t1.heap.size := by have := HQ1.size; omega
      clear HQ0 HQ1 G0 HI4 KB4 HB4
      go_wp2_with fail
      go_roundg (l - (k + 1))
      case measure => have := HGG.out; omega
      case rel => exact ⟨k + 1, by go_num, by go_num, by rw [HBE.out], by rw [HN.out.2.2.1], by rw [HN.out.1], by omega, Lib.hid (Nat.le_refl _), HI5, KB5, HB5, hz5⟩
    | false =>
      have HBE : Hid (beN X Y (k + 1) = be) := Lib.hid (by rw [HN.out.2.1]; rw [if_neg (of_decide_eq_false HIB.out)]; omega)
      go_upto_region 11 with fail
      refine wp_region_held_drew (S := fun w' => w'.heap[b8]? = some (.cells #[.int .i64 W, .int .i64 H, .int .i64 M, .int .i64 B, .slice ao nb cb, .map (some m)] 68 (0, 0)) ∧ w'.cell? ⟨b8, 2, none⟩ = some (.int .i64 M)) (by kernel_rfl) (G0.out _ HQ0) (fun hHeld => ?_)
      refine wpAnyH_take (i := 0) (oi := _) (v := ?_) rfl (by kernel_rfl) (by kernel_rfl) (by kernel_rfl) (fun _ _ _ h => h) (Or.inl ⟨by rfl, ?_⟩) (by assumption) ?_
      rotate_left
      · intro w hSw; obtain ⟨s0, s1⟩ := hSw; go_simp; (try with_reducible rfl)
      try change wpAnyH _ _ _ _ _ _ _ (Act.put _ (some 36) _) _
      try simp only [act_all]
      refine wpAnyH_take (i := 1) (oi := _) (v := ?_) rfl (by kernel_rfl) (by kernel_rfl) (by kernel_rfl) (fun _ _ _ h => h) (Or.inl ⟨by rfl, ?_⟩) (by assumption) ?_
      rotate_left
      · intro w hSw; obtain ⟨s0, s1⟩ := hSw; go_simp; (try with_reducible rfl)
      try change wpAnyH _ _ _ _ _ _ _ (Act.put _ (some 37) _) _
      try simp only [act_all]
      refine wpAnyH_take (i := 2) (oi := _) (v := ?_) rfl (by kernel_rfl) (by kernel_rfl) (by kernel_rfl) (fun _ _ _ h => h) (Or.inl ⟨by rfl, ?_⟩) (by assumption) ?_
      rotate_left
      · intro w hSw; obtain ⟨s0, s1⟩ := hSw; go_simp; (try with_reducible rfl)
      try change wpAnyH _ _ _ _ _ _ _ (Act.put _ (some 38) _) _
      try simp only [act_all]
      refine wpAnyH_take (i := 3) (oi := _) (v := ?_) rfl (by kernel_rfl) (by kernel_rfl) (by kernel_rfl) (fun _ _ _ h => h) (Or.inl ⟨by rfl, ?_⟩) (by assumption) ?_
      rotate_left
      · intro w hSw; obtain ⟨s0, s1⟩ := hSw; go_simp; (try with_reducible rfl)
      try change wpAnyH _ _ _ _ _ _ _ (Act.put _ (some 39) _) _
      try simp only [act_all]
      refine wpAnyH_take (i := 4) (oi := _) (v := _) rfl (by kernel_rfl) (by kernel_rfl) (by kernel_rfl) (fun _ _ _ h => h) (yieldsIf_load_mid (by rfl) 68 _ rfl b8 0 rfl ([.int .i64 W, .int .i64 H, .int .i64 M, .int .i64 B, .slice ao nb cb, .map (some m)]) _ (fun w' hh => range_row hh.1 0 [.int .i64 W, .int .i64 H, .int .i64 M, .int .i64 B, .slice ao nb cb, .map (some m)] (fun j hj => by simp only [Nat.zero_add, List.getElem?_toArray])) Try.underlying68 rfl (by kernel_rfl)) (by assumption) ?_
      try change wpAnyH _ _ _ _ _ _ _ (Act.put _ (some 40) _) _
      try simp only [act_all]
      refine wpAnyH_take (i := 5) (oi := _) (v := ?_) rfl (by kernel_rfl) (by kernel_rfl) (by kernel_rfl) (fun _ _ _ h => h) (Or.inl ⟨by rfl, ?_⟩) (by assumption) ?_
      rotate_left
      · intro w hSw; obtain ⟨s0, s1⟩ := hSw; go_simp; (try with_reducible rfl)
      try change wpAnyH _ _ _ _ _ _ _ (Act.put _ (some 41) _) _
      try simp only [act_all]
      refine wpAnyH_take (i := 6) (oi := _) (v := ?_) rfl (by kernel_rfl) (by kernel_rfl) (by kernel_rfl) (fun _ _ _ h => h) (Or.inl ⟨by rfl, ?_⟩) (by assumption) ?_
      rotate_left
      · intro w hSw; obtain ⟨s0, s1⟩ := hSw; go_simp; (try with_reducible rfl)
      try change wpAnyH _ _ _ _ _ _ _ (Act.put _ (some 42) _) _
      try simp only [act_all]
      refine wpAnyH_ready (rs := [7]) (by kernel_rfl) (by simp) ?_
      refine AllReadyH.cons (o := _) rfl (fun K hK => ?_) AllReadyH.nil
      go_simp
      refine (bend_any W H M B pv wy nb cb m ao _).mono ?_
      rw [HN.out.2.2.2]
      rintro e_ t1 ⟨rfl, hb⟩
      have HQ1 : Below w4.heap.size w4 t1 := HQ0.trans (hb.mono HQ0.size)
      clear hb hHeld
      refine hK.out _ _ (G0.out _ HQ1) (fun hHeld => ?_)
      clear hK K
      try simp only [act_all]
      refine wpAnyH_take (i := 8) (oi := _) (v := ?_) rfl (by kernel_rfl) (by kernel_rfl) (by kernel_rfl) (fun _ _ _ h => h) (Or.inl ⟨by rfl, ?_⟩) (by assumption) ?_
      rotate_left
      · intro w hSw; obtain ⟨s0, s1⟩ := hSw; go_simp; (try with_reducible rfl)
      try change wpAnyH _ _ _ _ _ _ _ (Act.put _ (some 44) _) _
      try simp only [act_all]
      refine wpAnyH_take (i := 9) (oi := _) (v := ?_) rfl (by kernel_rfl) (by kernel_rfl) (by kernel_rfl) (fun _ _ _ h => h) (Or.inl ⟨by rfl, ?_⟩) (by assumption) ?_
      rotate_left
      · intro w hSw; obtain ⟨s0, s1⟩ := hSw; go_simp; (try with_reducible rfl)
      try change wpAnyH _ _ _ _ _ _ _ (Act.put _ (some 45) _) _
      try simp only [act_all]
      refine wpAnyH_take (i := 10) (oi := _) (v := ?_) rfl (by kernel_rfl) (by kernel_rfl) (by kernel_rfl) (fun _ _ _ h => h) (Or.inl ⟨by rfl, ?_⟩) (by assumption) ?_
      rotate_left
      · intro w hSw; obtain ⟨s0, s1⟩ := hSw; go_simp; (try with_reducible rfl)
      try change wpAnyH _ _ _ _ _ _ _ (Act.put _ (some 6) _) _
      try simp only [act_all]
      refine wpAnyH_done (by kernel_rfl) ?_ _
      clear hHeld
      have HI5 := Lib.hid (HI4.out.keep HQ1)
      have KB5 : Hid (t1.heap[b8]? = some (.cells #[.int .i64 W, .int .i64 H, .int .i64 M, .int .i64 B, .slice ao nb cb, .map (some m)] 68 (0, 0))) := Lib.hid (G0.out _ HQ1).1
      have HB5 : Hid (Below w.heap.size w t1) := Lib.hid (HB4.out.trans (HQ1.mono HB4.out.size))
      have hz5 : b8 < t1.heap.size := by have := HQ1.size; omega
      clear HQ0 HQ1 G0 HI4 KB4 HB4
      go_wp2_with fail
      go_roundg (l - (k + 1))
      case measure => have := HGG.out; omega
      case rel => exact ⟨k + 1, by go_num, by go_num, by rw [HBE.out], by rw [HN.out.2.2.1], by rw [HN.out.1], by omega, Lib.hid (Nat.le_refl _), HI5, KB5, HB5, hz5⟩
end Go.Proofs.Ytkkcnhhfdicppaa

namespace Lay
theorem sm_rev (f : Nat → Int) : ∀ n, sm (fun i => f (n - 1 - i)) n = sm f n
  | 0 => rfl
  | n + 1 => by
    have key : ∀ m, m ≤ n → sm (fun i => f (n - i)) m + sm f (n + 1 - m) = sm f (n + 1) := by
      intro m
      induction m with
      | zero => intro _; simp [sm]
      | succ m ih =>
        intro hm
        have h := ih (by omega)
        rw [show n + 1 - m = (n - m) + 1 by omega] at h
        simp only [sm] at h ⊢
        rw [show n + 1 - (m + 1) = n - m by omega]
        omega
    have h := key n (Nat.le_refl _)
    rw [show n + 1 - n = 1 by omega] at h
    simp only [sm, Nat.sub_self, Nat.add_sub_cancel, Int.zero_add] at h ⊢
    exact h
theorem co_be {M B : Int} {X Y : Nat → Int} : ∀ {l : Nat}, (l : Int) * M + beN X Y l * B = coN M B X Y l
  | 0 => by simp [beN, coN]
  | l + 1 => by
    have ih := co_be (M := M) (B := B) (X := X) (Y := Y) (l := l)
    simp only [beN, coN]
    rw [show ((l + 1 : Nat) : Int) = (l : Int) + 1 by omega, Int.add_mul, Int.add_mul]
    unfold bd
    split <;> omega
def beU (X Y : Nat → Int) (k : Nat) : Int := if wyN X Y k ≠ wyN X Y (k + 1) then 1 else 0
theorem be_sum {X Y : Nat → Int} : ∀ {m : Nat}, (∀ k, k < m + 1 → wyN X Y k ≠ -1) → beN X Y (m + 1) = sm (beU X Y) m
  | 0, h => by simp [beN, sm, pvN]
  | m + 1, h => by
    have ih := be_sum (X := X) (Y := Y) (m := m) (fun k hk => h k (by omega))
    have h1 := h m (by omega)
    have h2 := h (m + 1) (by omega)
    rw [beN, ih]
    simp only [sm]
    congr 1
    unfold beU
    by_cases e : wyN X Y m = wyN X Y (m + 1)
    · rw [if_neg (show ¬ (pvN X Y (m + 1) ≠ -1 ∧ wyN X Y (m + 1) ≠ -1 ∧ pvN X Y (m + 1) ≠ wyN X Y (m + 1)) from fun h => h.2.2 e), if_neg (fun h => h e)]
    · rw [if_pos (show pvN X Y (m + 1) ≠ -1 ∧ wyN X Y (m + 1) ≠ -1 ∧ pvN X Y (m + 1) ≠ wyN X Y (m + 1) from ⟨h1, h2, e⟩), if_pos e]
theorem wy_back {x y p q : Int} (h : wyS x y p q ≠ -1) : wyS p q x y = (wyS x y p q + 2) % 4 := by
  rcases wy_cases h with ⟨e, a, b⟩ | ⟨e, a, b⟩ | ⟨e, a, b⟩ | ⟨e, a, b⟩ <;> rw [e] <;> unfold wyS <;> subst a <;> (try subst b) <;> (repeat' split) <;> omega
theorem wyN_rev {X Y : Nat → Int} {l k : Nat} (hk : k < l) (h : wyN X Y (l - 1 - k) ≠ -1) : wyN (fun i => X (l - i)) (fun i => Y (l - i)) k = (wyN X Y (l - 1 - k) + 2) % 4 := by
  have h2 := wy_back h
  show wyS (X (l - k)) (Y (l - k)) (X (l - (k + 1))) (Y (l - (k + 1))) = _
  rw [show l - (k + 1) = l - 1 - k by omega, show l - k = l - 1 - k + 1 by omega]
  exact h2
theorem be_rev {X Y : Nat → Int} {l : Nat} (h : ∀ k, k < l → wyN X Y k ≠ -1) : beN (fun i => X (l - i)) (fun i => Y (l - i)) l = beN X Y l := by
  cases l with
  | zero => rfl
  | succ m =>
    rw [be_sum h, be_sum (fun k hk => by
      rw [wyN_rev hk (h _ (by omega))]
      have := wyS_range (X (m + 1 - 1 - k)) (Y (m + 1 - 1 - k)) (X (m + 1 - 1 - k + 1)) (Y (m + 1 - 1 - k + 1))
      omega), ← sm_rev (beU X Y) m]
    refine sm_congr fun i hi => ?_
    unfold beU
    rw [wyN_rev (by omega) (h _ (by omega)), wyN_rev (by omega) (h _ (by omega))]
    have r1 : -1 ≤ wyN X Y (m - i) ∧ wyN X Y (m - i) < 4 := wyS_range _ _ _ _
    have r2 : -1 ≤ wyN X Y (m - 1 - i) ∧ wyN X Y (m - 1 - i) < 4 := wyS_range _ _ _ _
    have n1 := h (m - i) (by omega)
    have n2 := h (m - 1 - i) (by omega)
    rw [show m + 1 - 1 - i = m - i by omega, show m + 1 - 1 - (i + 1) = m - 1 - i by omega, show m - 1 - i + 1 = m - i by omega]
    (repeat' split) <;> omega
theorem co_rev {M B : Int} {X Y : Nat → Int} {l : Nat} (h : ∀ k, k < l → wyN X Y k ≠ -1) : coN M B (fun i => X (l - i)) (fun i => Y (l - i)) l = coN M B X Y l := by
  rw [← co_be, ← co_be, be_rev h]
theorem chE_rev {W H : Int} {K : Int → Int → Bool} {X Y : Nat → Int} {l : Nat} (h : chE W H K X Y (l + 1) = 0) : chE W H K (fun i => X (l - i)) (fun i => Y (l - i)) (l + 1) = 0 := by
  obtain ⟨h1, h2⟩ := chE_ok.1 h
  obtain ⟨a, b, c⟩ := paB_iff.1 h1
  refine chE_ok.2 ⟨paB_iff.2 ⟨a, fun i j hi hj he => ?_, fun k hk => ?_⟩, opA_iff.2 fun k hk => ?_⟩
  · exact b (l - j) (l - i) (by omega) (by omega) ⟨he.1.symm, he.2.symm⟩
  · rw [wyN_rev (by omega) (c _ (by omega))]
    have : -1 ≤ wyN X Y (l - 1 - k) ∧ wyN X Y (l - 1 - k) < 4 := wyS_range _ _ _ _
    omega
  · exact opA_iff.1 h2 (l - k) (by omega)
theorem path_dist {X Y : Nat → Int} : ∀ {l : Nat}, (∀ k, k < l → wyN X Y k ≠ -1) → max (X 0 - X l) (-(X 0 - X l)) + max (Y 0 - Y l) (-(Y 0 - Y l)) ≤ l
  | 0, _ => by omega
  | l + 1, h => by
    have ih := path_dist (X := X) (Y := Y) (l := l) (fun k hk => h k (by omega))
    have ha := adj_wy (h l (by omega))
    unfold Adj at ha
    omega
end Lay
namespace Go.Proofs.Ytkkcnhhfdicppaa
open Go.RowKit Lay
theorem sameXY1 (x y : Int) (w : World) : (Op.equalIn 10000 26 (.agg #[.int .i64 x, .int .i64 y]) (.agg #[.int .i64 x, .int .i64 y])).run Try.prog w = .ok true w := by
  rw [sameXY]; simp
set_option maxRecDepth 100000 in
set_option maxHeartbeats 32000000 in
theorem tCheapest_any (W H M B fx fy tx ty c : Int) (nb cb l cp N cf : Nat) (ao ap af : Option Addr) (XB YB X Y f : Nat → Int) (w : World) (hv : vaG W H M B nb XB YB = true) (hE : chE W H (blkN XB YB nb) X Y (l + 1) = 0) (hn : nb ≤ 9223372036854775807) (hc : XYs w ao nb XB YB) (hp : XYs w ap (l + 1) X Y) (hr : R2 X Y (l + 1)) (hl9 : l ≤ 900)
    (hx0 : X 0 = fx) (hy0 : Y 0 = fy) (hx1 : X l = tx) (hy1 : Y l = ty) (hco : coN M B X Y l = c) (hi : Ints w af N f) (j : Nat) (hj : (j : Int) = fy * W + fx) (hjN : j < N) (hfj : f j = c) :
    Calls Try.prog 36 #[.agg #[.int .i64 W, .int .i64 H, .int .i64 M, .int .i64 B, .slice ao nb cb], .agg #[.int .i64 fx, .int .i64 fy, .int .i64 tx, .int .i64 ty], .slice ap (l + 1) cp, .int .i64 c, .slice af N cf] w fun e w' => e = .returned (.bool true) ∧ Below w.heap.size w w' := by
  have HC := Lib.hid hc
  have HP := Lib.hid hp
  have HR := Lib.hid hr
  have HE := Lib.hid hE
  have HV := Lib.hid hv
  have HI := Lib.hid hi
  obtain ⟨hnum, _⟩ := vaG_num hv
  have hch := chE_ok.1 hE
  obtain ⟨_, _, hpa3⟩ := paB_iff.1 hch.1
  have hwy : ∀ k, k < l → wyN X Y k ≠ -1 := fun k hk => hpa3 k (by omega)
  have hodd := path_odd (X := X) (Y := Y) (n := l) hwy
  have hdist := path_dist hwy
  have hrev := co_rev (M := M) (B := B) hwy
  have hcb := co_be (M := M) (B := B) (X := X) (Y := Y) (l := l)
  have hbl := beN_le (X := X) (Y := Y) l
  have hon0 := (opB_iff.1 (opA_iff.1 hch.2 0 (by omega))).1
  have hon1 := (opB_iff.1 (opA_iff.1 hch.2 l (by omega))).1
  rw [hco] at hrev hcb
  rw [hx0, hy0, hx1, hy1] at hodd hdist
  rw [hx0, hy0] at hon0
  rw [hx1, hy1] at hon1
  obtain ⟨be, hbe⟩ : ∃ z, beN X Y l = z := ⟨_, rfl⟩
  rw [hbe] at hcb hbl
  have HREV := Lib.hid hrev
  have HBE := Lib.hid hbe
  have HCO := Lib.hid hco
  have HODD := Lib.hid (And.intro hodd hdist)
  have HX := Lib.hid (And.intro hx0 (And.intro hy0 (And.intro hx1 hy1)))
  have HF := Lib.hid hfj
  have HJ := Lib.hid hj
  have hlM : 0 ≤ (l : Int) * M ∧ (l : Int) * M ≤ 900000 := ⟨Int.mul_nonneg (by omega) (by omega), Int.le_trans (Int.mul_le_mul (show (l : Int) ≤ 900 by omega) (show M ≤ 1000 by omega) (by omega) (by omega)) (by decide)⟩
  have hbB : 0 ≤ be * B ∧ be * B ≤ 900000 := ⟨Int.mul_nonneg hbl.1 (by omega), Int.le_trans (Int.mul_le_mul (show be ≤ 900 by omega) (show B ≤ 1000 by omega) (by omega) (by omega)) (by decide)⟩
  have m1 : IntKind.i64.wrap ((l : Int) * M) = (l : Int) * M := by rw [IntKind.wrap_i64]; omega
  have m2 : IntKind.i64.wrap (be * B) = be * B := by rw [IntKind.wrap_i64]; omega
  have m3 : IntKind.i64.wrap ((l : Int) * M + be * B) = c := by rw [IntKind.wrap_i64]; omega
  have hsame := sameXY1
  clear hv hE hc hp hr hi hch hpa3 hwy hodd hdist hrev hbe hco hx0 hy0 hx1 hy1 hfj hj hcb
  go_enter Try.func36, Try.ntmps36
  go_wp2_with fail
  refine (pCost_ok W H M B nb cb ao XB YB (l + 1) cp ap X Y _ HV.out HE.out hn (HC.out.keep (by go_grown)) (by omega) (HP.out.keep (by go_grown)) HR.out).mono ?_
  rw [Nat.add_sub_cancel, HBE.out, HCO.out]
  rintro e w1 ⟨rfl, hb⟩
  have HB1 : Hid (Below w.heap.size w w1) := Lib.hid (Below.trans (by go_grown) (hb.mono (by simp; omega)))
  have KG1 : Hid (w1.heap[w.heap.size]? = some (.cells #[.int .i64 W, .int .i64 H, .int .i64 M, .int .i64 B, .slice ao nb cb] 24 (0, 0))) := Lib.hid ((hb.block _ (by simp; omega)).trans ((Below.heap_alloc _ _ _ (by simp)).trans (heap_alloc_new w _)))
  have KP1 : Hid (w1.heap[w.heap.size + 1]? = some (.cells #[.int .i64 fx, .int .i64 fy, .int .i64 tx, .int .i64 ty] 61 (0, 0))) := Lib.hid ((hb.block _ (by simp)).trans (by have h := heap_alloc_new (w.alloc (.cells #[.int .i64 W, .int .i64 H, .int .i64 M, .int .i64 B, .slice ao nb cb] 24)) (.cells #[.int .i64 fx, .int .i64 fy, .int .i64 tx, .int .i64 ty] 61); rwa [World.size_alloc] at h))
  have hz1 : w.heap.size + 1 < w1.heap.size := by have := hb.size; simp at this; omega
  clear hb
  obtain ⟨bp, op, hpe, hcell⟩ := (HP.out.keep HB1.out) (by omega)
  subst hpe
  obtain ⟨r0, r1⟩ := hcell 0 (by omega)
  obtain ⟨s0, s1⟩ := hcell l (by omega)
  rw [HX.out.1, Nat.zero_mul, Nat.add_zero] at r0
  rw [HX.out.2.1, Nat.zero_mul, Nat.add_zero] at r1
  rw [HX.out.2.2.1] at s0
  rw [HX.out.2.2.2] at s1
  obtain ⟨g2, g3⟩ : w1.cell? ⟨w.heap.size, 2, none⟩ = some (.int .i64 M) ∧ w1.cell? ⟨w.heap.size, 3, none⟩ = some (.int .i64 B) := ⟨cell_of_blk KG1.out rfl, cell_of_blk KG1.out rfl⟩
  obtain ⟨p0, p1, p2, p3⟩ : w1.cell? ⟨w.heap.size + 1, 0, none⟩ = some (.int .i64 fx) ∧ w1.cell? ⟨w.heap.size + 1, 1, none⟩ = some (.int .i64 fy) ∧ w1.cell? ⟨w.heap.size + 1, 2, none⟩ = some (.int .i64 tx) ∧ w1.cell? ⟨w.heap.size + 1, 3, none⟩ = some (.int .i64 ty) := ⟨cell_of_blk KP1.out rfl, cell_of_blk KP1.out rfl, cell_of_blk KP1.out rfl, cell_of_blk KP1.out rfl⟩
  have hl0 : decide ((l : Int) < 0) = false := decide_eq_false (by omega)
  have hlt1 : (l : Int) < (l : Int) + 1 := by omega
  have hlt2 : (0 : Int) < (l : Int) + 1 := by omega
  have hlt0 : (0 : Int) ≤ (l : Int) := by omega
  have hwl : IntKind.i64.wrap ((l : Int) + 1) = (l : Int) + 1 := by rw [IntKind.wrap_i64]; omega
  clear hcell
  go_upto_region 2 with fail
  go_quiet (fail)
  obtain ⟨nA, hnA⟩ : ∃ z, z = nq := ⟨_, rfl⟩
  rw [← hnA]
  clear hnA
  have hwx : IntKind.i64.wrap (fx - tx) = fx - tx := by rw [IntKind.wrap_i64]; omega
  have hwy2 : IntKind.i64.wrap (fy - ty) = fy - ty := by rw [IntKind.wrap_i64]; omega
  go_upto_region 4 with fail
  clear m1 m2 m3 r0 r1 s0 s1 g2 g3 hwl
  go_quiet (fail)
  obtain ⟨wq, hwq⟩ : ∃ z, z = (w1.drewN nA).drewN nq := ⟨_, rfl⟩
  rw [← hwq]
  have HBq : Hid (Below w.heap.size w wq) := Lib.hid (by rw [hwq]; exact drewN_below (drewN_below HB1.out))
  have KGq : Hid (wq.heap[w.heap.size]? = some (.cells #[.int .i64 W, .int .i64 H, .int .i64 M, .int .i64 B, .slice ao nb cb] 24 (0, 0))) := Lib.hid (by rw [hwq]; exact KG1.out)
  have KPq : Hid (wq.heap[w.heap.size + 1]? = some (.cells #[.int .i64 fx, .int .i64 fy, .int .i64 tx, .int .i64 ty] 61 (0, 0))) := Lib.hid (by rw [hwq]; exact KP1.out)
  have hzq : w.heap.size + 1 < wq.heap.size := by rw [hwq]; exact hz1
  clear hwq HB1 KG1 KP1 hz1 p0 p1 p2 p3
  obtain ⟨dx, hdx⟩ : ∃ z, fx - tx = z := ⟨_, rfl⟩
  obtain ⟨dy, hdy⟩ : ∃ z, fy - ty = z := ⟨_, rfl⟩
  rw [hdx, hdy]
  have HDD := Lib.hid (And.intro hdx hdy)
  have hdx9 : -30 ≤ dx ∧ dx ≤ 30 := by omega
  have hdy9 : -30 ≤ dy ∧ dy ≤ 30 := by omega
  clear hdx hdy hwx hwy2
  have n1 : IntKind.i64.wrap (-dx) = -dx := by rw [IntKind.wrap_i64]; omega
  have n2 : IntKind.i64.wrap (-dy) = -dy := by rw [IntKind.wrap_i64]; omega
  obtain ⟨D, hD⟩ : ∃ z, max dx (-dx) + max dy (-dy) = z := ⟨_, rfl⟩
  have hodd := HODD.out
  rw [HDD.out.1, HDD.out.2, hD] at hodd
  have hDl : D ≤ (l : Int) := hodd.2
  have hD0 : 0 ≤ D := by omega
  have hDm : ((l : Int) - D) % 2 = 0 := by have h1 := hodd.1; have h2 := HDD.out.1; have h3 := HDD.out.2; omega
  have t1 : IntKind.i64.wrap ((l : Int) - D) = (l : Int) - D := by rw [IntKind.wrap_i64]; omega
  have t2 : ((l : Int) - D).tmod 2 = 0 := by rw [Int.tmod_eq_emod_of_nonneg (by omega)]; exact hDm
  have t3 : IntKind.i64.wrap D = D := by rw [IntKind.wrap_i64]; omega
  clear hodd hDm
  have HDL := Lib.hid (And.intro hDl (And.intro t1 t2))
  clear t1 t2
  go_upto_region 6 with fail
  try rw [hD]
  clear hD n1 n2 t3
  go_wp2_with fail
  refine (pTurned_ok (l + 1) cp (some ⟨bp, op, none⟩) X Y _ (by omega) (by omega) (HP.out.keep HBq.out)).mono ?_
  rintro e w2 ⟨al, cl, rfl, hxy, hb⟩
  simp only [Nat.add_sub_cancel] at hxy
  have HXY := Lib.hid hxy
  have HB2 : Hid (Below w.heap.size w w2) := Lib.hid (HBq.out.trans (hb.mono (by omega)))
  have KG2 : Hid (w2.heap[w.heap.size]? = some (.cells #[.int .i64 W, .int .i64 H, .int .i64 M, .int .i64 B, .slice ao nb cb] 24 (0, 0))) := Lib.hid ((hb.block _ (by omega)).trans KGq.out)
  have KP2 : Hid (w2.heap[w.heap.size + 1]? = some (.cells #[.int .i64 fx, .int .i64 fy, .int .i64 tx, .int .i64 ty] 61 (0, 0))) := Lib.hid ((hb.block _ hzq).trans KPq.out)
  have hz2 : w.heap.size + 1 < w2.heap.size := by have := hb.size; omega
  clear hb hxy HBq KGq KPq hzq
  obtain ⟨g0, g1, g2, g3, g4⟩ : w2.cell? ⟨w.heap.size, 0, none⟩ = some (.int .i64 W) ∧ w2.cell? ⟨w.heap.size, 1, none⟩ = some (.int .i64 H) ∧ w2.cell? ⟨w.heap.size, 2, none⟩ = some (.int .i64 M) ∧ w2.cell? ⟨w.heap.size, 3, none⟩ = some (.int .i64 B) ∧ w2.cell? ⟨w.heap.size, 4, none⟩ = some (.slice ao nb cb) := ⟨cell_of_blk KG2.out rfl, cell_of_blk KG2.out rfl, cell_of_blk KG2.out rfl, cell_of_blk KG2.out rfl, cell_of_blk KG2.out rfl⟩
  go_wp2_with fail
  refine (pCost_ok W H M B nb cb ao XB YB (l + 1) cl al (fun i => X (l - i)) (fun i => Y (l - i)) _ HV.out (chE_rev HE.out) hn (HC.out.keep HB2.out) (by omega) HXY.out (fun k _ => HR.out (l - k) (by omega))).mono ?_
  rw [Nat.add_sub_cancel, HREV.out]
  obtain ⟨be2, hbe2⟩ : ∃ z, beN (fun i => X (l - i)) (fun i => Y (l - i)) l = z := ⟨_, rfl⟩
  rw [hbe2]
  rintro e w3 ⟨rfl, hb⟩
  have HB3 : Hid (Below w.heap.size w w3) := Lib.hid (HB2.out.trans (hb.mono (by omega)))
  obtain ⟨g0', p0, p1⟩ : w3.cell? ⟨w.heap.size, 0, none⟩ = some (.int .i64 W) ∧ w3.cell? ⟨w.heap.size + 1, 0, none⟩ = some (.int .i64 fx) ∧ w3.cell? ⟨w.heap.size + 1, 1, none⟩ = some (.int .i64 fy) := ⟨cell_of_blk ((hb.block _ (by omega)).trans KG2.out) rfl, cell_of_blk ((hb.block _ hz2).trans KP2.out) rfl, cell_of_blk ((hb.block _ hz2).trans KP2.out) rfl⟩
  obtain ⟨bf, of_, hfe, hfc⟩ := (HI.out.keep HB3.out) (by omega)
  subst hfe
  have f0 := hfc j hjN
  rw [HF.out] at f0
  have hjj : fy * W + fx = (j : Int) := HJ.out.symm
  have hfw : 0 ≤ fy * W ∧ fy * W ≤ 900 := ⟨Int.mul_nonneg (by omega) (by omega), Int.le_trans (Int.mul_le_mul (show fy ≤ 30 by omega) (show W ≤ 30 by omega) (by omega) (by omega)) (by decide)⟩
  have q1 : IntKind.i64.wrap (fy * W) = fy * W := by rw [IntKind.wrap_i64]; omega
  have q2 : IntKind.i64.wrap (fy * W + fx) = (j : Int) := by rw [hjj, IntKind.wrap_i64]; omega
  have hj0 : (0 : Int) ≤ j := by omega
  have hjN2 : (j : Int) < N := by omega
  obtain ⟨_, t1, t2⟩ := HDL.out
  clear hbe2 hb hfc KG2 KP2 g0 g1 g2 g3 g4 HB2 hz2 hjj HXY
  go_wp2_with fail
  refine bodyPost_ret (v := .bool true) (by simp [results, Try.results36, go_sem]) rfl ⟨rfl, HB3.out⟩
end Go.Proofs.Ytkkcnhhfdicppaa
