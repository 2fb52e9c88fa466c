import Derived.Test.YtjodjfllgofkaaaIn
import Derived.Test.YtjodjfllgofkaaaCi
import Derived.Test.YtjodjfllgofkaaaEx
import Derived.BigRegion
namespace Prm
def cmpE (n m : Nat) (f g : Nat → Int) : Int := if permB n f = true ∧ permB m g = true then (if n = m then 0 else 2) else 40
theorem cmpE_1 {n m : Nat} {f g : Nat → Int} (h : permB n f = false) : cmpE n m f g = 40 := by unfold cmpE; rw [if_neg (by rw [h]; simp)]
theorem cmpE_2 {n m : Nat} {f g : Nat → Int} (h : permB m g = false) : cmpE n m f g = 40 := by unfold cmpE; rw [if_neg (by rw [h]; simp)]
theorem cmpE_3 {n m : Nat} {f g : Nat → Int} (h1 : permB n f = true) (h2 : permB m g = true) (h : ¬ n = m) : cmpE n m f g = 2 := by unfold cmpE; rw [if_pos ⟨h1, h2⟩, if_neg h]
theorem cmpE_4 {n : Nat} {f g : Nat → Int} (h1 : permB n f = true) (h2 : permB n g = true) : cmpE n n f g = 0 := by unfold cmpE; rw [if_pos ⟨h1, h2⟩, if_pos rfl]
def cmpF (f g : Nat → Int) (k : Nat) : Int := f (g k).toNat
end Prm
namespace Go.Proofs.Ytjodjfllgofkaaa
open Go.RowKit Prm

end Go.Proofs.Ytjodjfllgofkaaa

namespace Prm
theorem perm_bij {n : Nat} {f : Nat → Int} (h : permB n f = true) : Bij n (fun k => (f k).toNat) := by
  obtain ⟨_, _, hr⟩ := permB_yes h
  refine ⟨fun k hk => ?_, fun j k hj hk e => ?_⟩
  · have := hr k hk
    show (f k).toNat < n
    omega
  · obtain ⟨h1, _, h3⟩ := hr k hk
    obtain ⟨h4, _, _⟩ := hr j (by omega)
    simp only at e
    exact h3 j hj (by omega)
theorem invTo_at {n : Nat} {f : Nat → Int} (h : Bij n (fun k => (f k).toNat)) {m : Nat} (hm : m ≤ n) {k : Nat} (hk : k < m) : invTo f m (f k).toNat = k := by
  induction m with
  | zero => omega
  | succ m ih =>
    simp only [invTo]
    by_cases e : k = m
    · subst e; rw [if_pos rfl]
    · rw [if_neg (h.2 k m (by omega) (by omega)), ih (by omega) (by omega)]
theorem invTo_ex {n : Nat} {f : Nat → Int} (h : permB n f = true) {y : Nat} (hy : y < n) : ∃ k, k < n ∧ (f k).toNat = y ∧ invTo f n y = k := by
  have hb := perm_bij h
  obtain ⟨k, hk, e⟩ := hit_iff.1 (hb.onto hy)
  exact ⟨k, hk, e, by rw [← e]; exact invTo_at hb (Nat.le_refl n) hk⟩
theorem invTo_perm {n : Nat} {f : Nat → Int} (h : permB n f = true) : permB n (invTo f n) = true := by
  obtain ⟨h1, h64, _⟩ := permB_yes h
  rw [permB_in h1 h64, okUp_iff]
  intro y hy
  obtain ⟨k, hk, e, ek⟩ := invTo_ex h hy
  rw [ek]
  refine ⟨by omega, by omega, fun z hz ez => ?_⟩
  obtain ⟨j, hj, e', ej⟩ := invTo_ex h (show z < n by omega)
  rw [ej] at ez
  obtain rfl : j = k := by omega
  omega
theorem invTo_comp {n : Nat} {f : Nat → Int} (h : permB n f = true) {k : Nat} (hk : k < n) : cmpF (invTo f n) f k = k := invTo_at (perm_bij h) (Nat.le_refl n) hk
theorem invTo_inv {n : Nat} {f : Nat → Int} (h : permB n f = true) : inv n (invTo f n) = inv n f := by
  have hb := perm_bij h
  obtain ⟨_, _, hr⟩ := permB_yes h
  unfold inv
  rw [← hb.sum (fun b => S n (fun a => if a < b ∧ invTo f n b < invTo f n a then 1 else 0))]
  have e1 : ∀ b, b < n → S n (fun a => if a < (f b).toNat ∧ invTo f n (f b).toNat < invTo f n a then 1 else 0) = S n (fun a => if f a < f b ∧ b < a then 1 else 0) := by
    intro b hb'
    rw [← hb.sum (fun a => if a < (f b).toNat ∧ invTo f n (f b).toNat < invTo f n a then 1 else 0)]
    refine S_congr fun a ha => ?_
    rw [invTo_at hb (Nat.le_refl n) hb', invTo_at hb (Nat.le_refl n) ha]
    have h1 := hr a ha
    have h2 := hr b hb'
    by_cases c1 : f a < f b
    · by_cases c2 : b < a
      · rw [if_pos ⟨by omega, by omega⟩, if_pos ⟨c1, c2⟩]
      · rw [if_neg (by omega), if_neg (fun h => c2 h.2)]
    · rw [if_neg (by omega), if_neg (fun h => c1 h.1)]
  rw [S_congr e1, S_swap]
  refine S_congr fun b hb' => S_congr fun a ha => ?_
  by_cases c1 : f b < f a
  · by_cases c2 : a < b
    · rw [if_pos ⟨c1, c2⟩, if_pos ⟨c2, c1⟩]
    · rw [if_neg (fun h => c2 h.2), if_neg (fun h => c2 h.1)]
  · rw [if_neg (fun h => c1 h.1), if_neg (fun h => c1 h.2)]
/-- How many elements a list has that comes with the error er. -/
def lenE (er : Int) (n : Nat) : Nat := if er = 0 then n else 0
theorem lenE_le (er : Int) (n : Nat) : lenE er n ≤ n := by unfold lenE; split <;> omega
end Prm
namespace Go.Proofs.Ytjodjfllgofkaaa
open Go.RowKit Prm
theorem IntsOr.form {B : Nat} {w : World} {e : Ending} {n : Nat} {f : Nat → Int} {er : Int} (h : IntsOr B w e n f er) : ∃ ao cap, e = .returned (.tuple #[.slice ao (lenE er n) cap, .int .i64 er]) ∧ Ints w ao (lenE er n) f := by
  rcases h with ⟨rfl, g, cap, rfl, hw, _⟩ | ⟨hne, rfl⟩
  · exact ⟨_, cap, rfl, hw.ints⟩
  · have e0 : lenE er n = 0 := by unfold lenE; rw [if_neg hne]
    rw [e0]
    exact ⟨none, 0, rfl, fun h => absurd h (by omega)⟩

end Go.Proofs.Ytjodjfllgofkaaa

namespace Prm
open Amp
/-- Are the first k items crossings? -/
def crossTo (f : Nat → It) : Nat → Bool
  | 0 => true
  | k + 1 => crossTo f k && decide ((f k).kind = 3)
theorem crossTo_stop {f : Nat → It} {k : Nat} (h : ¬ (f k).kind = 3) : ∀ m, k < m → crossTo f m = false := by
  intro m
  induction m with
  | zero => intro h; omega
  | succ m ih =>
    intro hk
    simp only [crossTo]
    by_cases e : k = m
    · subst e; rw [decide_eq_false h]; simp
    · rw [ih (by omega)]; rfl
theorem crossTo_at {f : Nat → It} {m : Nat} (h : crossTo f m = true) {k : Nat} (hk : k < m) : (f k).kind = 3 := by
  by_cases e : (f k).kind = 3
  · exact e
  · rw [crossTo_stop e m hk] at h; cases h
theorem crossTo_le {f : Nat → It} {m : Nat} (h : crossTo f m = true) {k : Nat} (hk : k ≤ m) : crossTo f k = true := by
  cases e : crossTo f k with
  | true => rfl
  | false =>
    exfalso
    induction k with
    | zero => cases e
    | succ k ih =>
      cases e' : crossTo f k with
      | false => exact ih (by omega) e'
      | true =>
        simp only [crossTo, e', Bool.true_and, decide_eq_false_iff_not] at e
        exact e (crossTo_at h (by omega))
/-- Where the light on each guide came in, behind the first k crossings. -/
def ltF (f : Nat → It) : Nat → Nat → Int
  | 0, i => i
  | k + 1, i => swp (ltF f k) (itA (f k)) i
theorem ltF_succ (f : Nat → It) (k : Nat) : ltF f (k + 1) = swp (ltF f k) (itA (f k)) := rfl
/-- Where light of guide x is behind the first k crossings. -/
def trk (f : Nat → It) : Nat → Int → Int
  | 0, x => x
  | k + 1, x => if trk f k x = (f k).at' then (f k).at' + 1 else if trk f k x = (f k).at' + 1 then (f k).at' else trk f k x
theorem itF_cross {n : Nat} {x : It} (h : itF n x = true) (hk : x.kind = 3) : x.at' = (itA x : Int) + 1 ∧ itA x + 2 ≤ n := by
  obtain ⟨_, _, _, _, h5, h6, h7⟩ := itF_yes h
  have hw : itW x = 2 := by unfold itW; rw [if_neg (by omega), if_pos (by omega)]
  rw [hw] at h5
  exact ⟨h6, by omega⟩
theorem permB_mk {n : Nat} {f : Nat → Int} (h1 : 1 ≤ n) (h2 : n ≤ 64) (h : ∀ k, k < n → 0 ≤ f k ∧ f k < n) (hd : ∀ j k, j < k → k < n → f j ≠ f k) : permB n f = true := by
  rw [permB_in h1 h2, okUp_iff]
  exact fun k hk => ⟨(h k hk).1, (h k hk).2, fun j hj => hd j k hj hk⟩
theorem permB_swp {n k : Nat} {f : Nat → Int} (h : permB n f = true) (hk : k + 1 < n) : permB n (swp f k) = true := by
  obtain ⟨h1, h2, hr⟩ := permB_yes h
  have hb := tau_bij hk
  refine permB_mk h1 h2 (fun i hi => ?_) (fun i j hij hj e => ?_)
  · rw [swp_tau]; have := hr (tau k i) (hb.1 i hi); exact ⟨this.1, this.2.1⟩
  · rw [swp_tau, swp_tau] at e
    have hne := hb.2 i j hij hj
    have hi' := hb.1 i (by omega)
    have hj' := hb.1 j hj
    rcases Nat.lt_or_gt_of_ne hne with h3 | h3
    · exact (hr _ hj').2.2 _ h3 e
    · exact (hr _ hi').2.2 _ h3 e.symm
theorem permB_id {n : Nat} (h1 : 1 ≤ n) (h2 : n ≤ 64) : permB n (fun i => (i : Int)) = true :=
  permB_mk h1 h2 (fun k hk => ⟨by omega, by omega⟩) (fun j k hj _ => by show (j : Int) ≠ (k : Int); omega)
theorem ltF_perm {n : Nat} {f : Nat → It} {m : Nat} (h1 : 1 ≤ n) (h2 : n ≤ 6) (hf : fitTo n f m = true) (hc : crossTo f m = true) : ∀ k, k ≤ m → permB n (ltF f k) = true := by
  intro k
  induction k with
  | zero => intro _; exact permB_id h1 (by omega)
  | succ k ih =>
    intro hk
    rw [ltF_succ]
    exact permB_swp (ih (by omega)) (by have := (itF_cross (fitAt hf hk) (crossTo_at hc hk)).2; omega)
theorem trk_bd {n : Nat} {f : Nat → It} {m : Nat} (hf : fitTo n f m = true) (hc : crossTo f m = true) {x : Int} (hx : 1 ≤ x ∧ x ≤ n) : ∀ k, k ≤ m → 1 ≤ trk f k x ∧ trk f k x ≤ n := by
  intro k
  induction k with
  | zero => intro _; exact hx
  | succ k ih =>
    intro hk
    have h1 := ih (by omega)
    obtain ⟨h2, h3⟩ := itF_cross (fitAt hf hk) (crossTo_at hc hk)
    simp only [trk]
    repeat' split
    all_goals omega
theorem ltF_trk {n : Nat} {f : Nat → It} {m : Nat} (hf : fitTo n f m = true) (hc : crossTo f m = true) {g : Nat} (hg : g < n) : ∀ k, k ≤ m → ltF f k (trk f k ((g : Int) + 1) - 1).toNat = g := by
  intro k
  induction k with
  | zero => intro _; simp only [trk, ltF]; omega
  | succ k ih =>
    intro hk
    have h1 := ih (by omega)
    have hb := trk_bd hf hc (x := (g : Int) + 1) (by omega) k (by omega)
    obtain ⟨h2, h3⟩ := itF_cross (fitAt hf hk) (crossTo_at hc hk)
    rw [ltF_succ, swp_tau]
    refine Eq.trans (congrArg (ltF f k) ?_) h1
    simp only [trk]
    rw [h2]
    unfold tau
    by_cases e1 : trk f k ((g : Int) + 1) = (itA (f k) : Int) + 1
    · rw [if_pos e1, if_neg (by omega), if_pos (by omega)]; omega
    · rw [if_neg e1]
      by_cases e2 : trk f k ((g : Int) + 1) = (itA (f k) : Int) + 1 + 1
      · rw [if_pos e2, if_pos (by omega)]; omega
      · rw [if_neg e2, if_neg (by omega), if_neg (by omega)]
/-- The permutation as the document's answer has it. -/
def trcF (f : Nat → It) (len : Nat) (g : Nat) : Int := trk f len ((g : Int) + 1) - 1
theorem invTo_trcF {n len : Nat} {f : Nat → It} (h1 : 1 ≤ n) (h2 : n ≤ 6) (hf : fitTo n f len = true) (hc : crossTo f len = true) {g : Nat} (hg : g < n) : invTo (ltF f len) n g = trcF f len g := by
  have hp := ltF_perm h1 h2 hf hc len (Nat.le_refl _)
  have hb := trk_bd hf hc (x := (g : Int) + 1) (by omega) len (Nat.le_refl _)
  have ht := ltF_trk hf hc hg len (Nat.le_refl _)
  obtain ⟨k, hk⟩ : ∃ k, (trk f len ((g : Int) + 1) - 1).toNat = k := ⟨_, rfl⟩
  rw [hk] at ht
  have := invTo_at (perm_bij hp) (Nat.le_refl n) (show k < n by omega)
  rw [ht, Int.toNat_natCast] at this
  rw [this]
  unfold trcF
  omega
theorem swp_swp (f : Nat → Int) (k : Nat) : swp (swp f k) k = f := by
  funext i
  rw [swp_tau, swp_tau, tau_tau]
theorem ltF_inv {n : Nat} {f : Nat → It} {m : Nat} (h1 : 1 ≤ n) (h2 : n ≤ 6) (hf : fitTo n f m = true) (hc : crossTo f m = true) : ∀ k, k ≤ m → inv n (ltF f k) ≤ k ∧ (k - inv n (ltF f k)) % 2 = 0 := by
  intro k
  induction k with
  | zero =>
    intro _
    have : inv n (ltF f 0) = 0 := S_nul fun b hb => S_nul fun a ha => if_neg (by simp only [ltF]; omega)
    rw [this]; exact ⟨Nat.le_refl _, rfl⟩
  | succ k ih =>
    intro hk
    obtain ⟨i1, i2⟩ := ih (by omega)
    obtain ⟨_, h3⟩ := itF_cross (fitAt hf hk) (crossTo_at hc hk)
    have hp := ltF_perm h1 h2 hf hc k (by omega)
    obtain ⟨_, _, hr⟩ := permB_yes hp
    have hne := (hr (itA (f k) + 1) (by omega)).2.2 (itA (f k)) (by omega)
    rw [ltF_succ]
    by_cases e : ltF f k (itA (f k) + 1) < ltF f k (itA (f k))
    · have := inv_swp (n := n) (by omega) e
      omega
    · have h5 : swp (ltF f k) (itA (f k)) (itA (f k) + 1) = ltF f k (itA (f k)) := by simp [swp]
      have h6 : swp (ltF f k) (itA (f k)) (itA (f k)) = ltF f k (itA (f k) + 1) := by simp [swp]
      have := inv_swp (n := n) (k := itA (f k)) (f := swp (ltF f k) (itA (f k))) (by omega) (by rw [h5, h6]; omega)
      rw [swp_swp] at this
      omega
theorem ltF_inv' {n len : Nat} {f : Nat → It} (h1 : 1 ≤ n) (h2 : n ≤ 6) (hf : fitTo n f len = true) (hc : crossTo f len = true) : permB n (trcF f len) = true ∧ inv n (trcF f len) ≤ len ∧ (len - inv n (trcF f len)) % 2 = 0 := by
  have hp := ltF_perm h1 h2 hf hc len (Nat.le_refl _)
  have e : inv n (trcF f len) = inv n (ltF f len) := by
    rw [← invTo_inv hp]
    exact inv_congr fun i hi => (invTo_trcF h1 h2 hf hc hi).symm
  rw [e]
  refine ⟨?_, ltF_inv h1 h2 hf hc len (Nat.le_refl _)⟩
  have hq := invTo_perm hp
  obtain ⟨a1, a2, a3⟩ := permB_yes hq
  refine permB_mk a1 a2 (fun k hk => ?_) (fun j k hj hk => ?_)
  · rw [← invTo_trcF h1 h2 hf hc hk]; exact ⟨(a3 k hk).1, (a3 k hk).2.1⟩
  · rw [← invTo_trcF h1 h2 hf hc hk, ← invTo_trcF h1 h2 hf hc (show j < n by omega)]; exact (a3 k hk).2.2 j hj
def permL (b : Bool) (n : Nat) : Nat := if b = true then n else 0
end Prm
namespace Go.Proofs.Ytjodjfllgofkaaa
open Go.RowKit Prm Amp
/-- What PermOf returned. -/
def PermIs (w : World) (e : Ending) (n : Nat) (F : Nat → Int) (b : Bool) (er : Int) : Prop :=
  ∃ ao cap, e = .returned (.tuple #[.slice ao (permL b n) cap, .bool b, .int .i64 er]) ∧ Ints w ao (permL b n) F

set_option maxRecDepth 100000 in
set_option maxHeartbeats 1000000 in
theorem sIdentity_any (n : Nat) (w : World) (hn : n ≤ 6) :
    Calls Try.prog 78 #[.int .i64 n] w fun e w' => IntsRet w.heap.size w' e n (fun i => (i : Int)) ∧ Below w.heap.size w w' := by
  obtain ⟨i0, hi, hz0, hz1, hz2⟩ := info_parts infoInt
  have HI := Lib.hid (And.intro hi (And.intro hz0 (And.intro hz1 hz2)))
  have hn' : (n : Int) ≤ 6 := by omega
  clear hi hz0 hz1 hz2
  go_enter Try.func78, Try.ntmps78
  go_wp2_with (refine wpList_make_full _ rfl (.tmp 5) (.tmp 5) 36 rfl w.heap.size 3 i0 _ 1 Try.underlying36 HI.out.1 HI.out.2.1 HI.out.2.2.1 .i64 .i64 _ _ n rfl rfl (by simp) (by simp) ?c1 ?c2 ?c3 ?_)
  case c1 => rw [HI.out.2.2.2]; omega
  case c2 => unfold maxLen; omega
  case c3 => exact Nat.le_refl _
  intro w1 hown hgrow
  have HW : Hid (Intw w1 w.heap.size n (fun _ => 0)) := Lib.hid (Intw.of_own hown fun i hi => made_get n i hi)
  have hlt1 : w.heap.size < w1.heap.size := (hown.lt _ rfl).2
  have D1 : Below w.heap.size w w1 := Below.grown (by go_grown) hgrow (Nat.le_refl _) (fun k hk => by cases hk)
  clear hown hgrow
  go_wp2_with fail
  go_loopw [4, 9] (fun _ i wr => ∃ k : Nat, i = .int .i64 k ∧ k ≤ n ∧ Hid (Intw wr w.heap.size n (fun i => if i < k then (i : Int) else 0)) ∧ Below w.heap.size w wr ∧ w.heap.size < wr.heap.size) (fun _ i _ => n - (intOf i).toNat)
  case atStart => exact ⟨0, rfl, Nat.zero_le _, Lib.hid (HW.out.congr fun i _ => (if_neg (by omega)).symm), D1, hlt1⟩
  case round =>
    obtain ⟨k, rfl, hk, HK, hbel, hsz⟩ := hrel
    by_cases hlt : k < n
    · have hlt' : (k : Int) < (n : Int) := by omega
      obtain ⟨d0, e0⟩ := HK.out k hlt
      have HS : Hid (Intw (wr.setCell ⟨w.heap.size, k, none⟩ (.int .i64 k)) w.heap.size n (fun i => if i < k + 1 then (i : Int) else 0)) := Lib.hid ((HK.out.store hlt k).congr fun i _ => by
        show (if i = k then (k : Int) else if i < k then (i : Int) else 0) = (if i < k + 1 then (i : Int) else 0)
        by_cases e : i = k
        · subst e; rw [if_pos rfl, if_pos (by omega)]
        · by_cases e2 : i < k
          · rw [if_neg e, if_pos e2, if_pos (by omega)]
          · rw [if_neg e, if_neg e2, if_neg (by omega)])
      go_wp2_with fail
      go_roundw
      case rel => exact ⟨k + 1, by go_num, by omega, HS, by go_grown, by simpa using hsz⟩
      case measure => simp [intOf]; omega
    · obtain rfl : k = n := by omega
      go_wp2_with fail
      go_returns
      exact ⟨⟨w.heap.size, k, rfl, HK.out.congr fun i hi => if_pos hi, Nat.le_refl _, hsz, Nat.le_refl _, by omega⟩, hbel⟩
end Go.Proofs.Ytjodjfllgofkaaa
