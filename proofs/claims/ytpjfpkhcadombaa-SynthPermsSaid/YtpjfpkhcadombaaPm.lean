import Derived.Test.YtpjfpkhcadombaaCm
namespace Prm
theorem perm_bij {n : Nat} {f : Nat → Int} (h : permB n f = true) : Bij n (fun k => (f k).toNat) := by
  obtain ⟨_, _, hr⟩ := permB_yes h
  refine ⟨fun k hk => ?_, fun j k hj hk e => ?_⟩
  · have := hr k hk
    show (f k).toNat < n
    omega
  · obtain ⟨h1, _, h3⟩ := hr k hk
    obtain ⟨h4, _, _⟩ := hr j (by omega)
    simp only at e
    exact h3 j hj (by omega)
theorem invTo_at {n : Nat} {f : Nat → Int} (h : Bij n (fun k => (f k).toNat)) {m : Nat} (hm : m ≤ n) {k : Nat} (hk : k < m) : invTo f m (f k).toNat = k := by
  induction m with
  | zero => omega
  | succ m ih =>
    simp only [invTo]
    by_cases e : k = m
    · subst e; rw [if_pos rfl]
    · rw [if_neg (h.2 k m (by omega) (by omega)), ih (by omega) (by omega)]
theorem invTo_ex {n : Nat} {f : Nat → Int} (h : permB n f = true) {y : Nat} (hy : y < n) : ∃ k, k < n ∧ (f k).toNat = y ∧ invTo f n y = k := by
  have hb := perm_bij h
  obtain ⟨k, hk, e⟩ := hit_iff.1 (hb.onto hy)
  exact ⟨k, hk, e, by rw [← e]; exact invTo_at hb (Nat.le_refl n) hk⟩
theorem invTo_perm {n : Nat} {f : Nat → Int} (h : permB n f = true) : permB n (invTo f n) = true := by
  obtain ⟨h1, h64, _⟩ := permB_yes h
  rw [permB_in h1 h64, okTo_iff]
  intro y hy
  obtain ⟨k, hk, e, ek⟩ := invTo_ex h hy
  rw [ek]
  refine ⟨by omega, by omega, fun z hz ez => ?_⟩
  obtain ⟨j, hj, e', ej⟩ := invTo_ex h (show z < n by omega)
  rw [ej] at ez
  obtain rfl : j = k := by omega
  omega
theorem invTo_comp {n : Nat} {f : Nat → Int} (h : permB n f = true) {k : Nat} (hk : k < n) : cmpF (invTo f n) f k = k := invTo_at (perm_bij h) (Nat.le_refl n) hk
theorem invTo_inv {n : Nat} {f : Nat → Int} (h : permB n f = true) : inv n (invTo f n) = inv n f := by
  have hb := perm_bij h
  obtain ⟨_, _, hr⟩ := permB_yes h
  unfold inv
  rw [← hb.sum (fun b => S n (fun a => if a < b ∧ invTo f n b < invTo f n a then 1 else 0))]
  have e1 : ∀ b, b < n → S n (fun a => if a < (f b).toNat ∧ invTo f n (f b).toNat < invTo f n a then 1 else 0) = S n (fun a => if f a < f b ∧ b < a then 1 else 0) := by
    intro b hb'
    rw [← hb.sum (fun a => if a < (f b).toNat ∧ invTo f n (f b).toNat < invTo f n a then 1 else 0)]
    refine S_congr fun a ha => ?_
    rw [invTo_at hb (Nat.le_refl n) hb', invTo_at hb (Nat.le_refl n) ha]
    have h1 := hr a ha
    have h2 := hr b hb'
    by_cases c1 : f a < f b
    · by_cases c2 : b < a
      · rw [if_pos ⟨by omega, by omega⟩, if_pos ⟨c1, c2⟩]
      · rw [if_neg (by omega), if_neg (fun h => c2 h.2)]
    · rw [if_neg (by omega), if_neg (fun h => c1 h.1)]
  rw [S_congr e1, S_swap]
  refine S_congr fun b hb' => S_congr fun a ha => ?_
  by_cases c1 : f b < f a
  · by_cases c2 : a < b
    · rw [if_pos ⟨c1, c2⟩, if_pos ⟨c2, c1⟩]
    · rw [if_neg (fun h => c2 h.2), if_neg (fun h => c2 h.1)]
  · rw [if_neg (fun h => c1 h.1), if_neg (fun h => c1 h.2)]
/-- How many elements a list has that comes with the error er. -/
def lenE (er : Int) (n : Nat) : Nat := if er = 0 then n else 0
theorem lenE_le (er : Int) (n : Nat) : lenE er n ≤ n := by unfold lenE; split <;> omega
end Prm
namespace Go.Proofs.Ytpjfpkhcadombaa
open Go.RowKit Prm
theorem IntsOr.form {B : Nat} {w : World} {e : Ending} {n : Nat} {f : Nat → Int} {er : Int} (h : IntsOr B w e n f er) : ∃ ao cap, e = .returned (.tuple #[.slice ao (lenE er n) cap, .int .i64 er]) ∧ Ints w ao (lenE er n) f := by
  rcases h with ⟨rfl, g, cap, rfl, hw, _⟩ | ⟨hne, rfl⟩
  · exact ⟨_, cap, rfl, hw.ints⟩
  · have e0 : lenE er n = 0 := by unfold lenE; rw [if_neg hne]
    rw [e0]
    exact ⟨none, 0, rfl, fun h => absurd h (by omega)⟩

set_option maxRecDepth 100000 in
set_option maxHeartbeats 1000000 in
theorem invert_any (n cap : Nat) (ao : Option Addr) (f : Nat → Int) (w : World) (hn : n ≤ 9223372036854775807) (hc : Ints w ao n f) :
    Calls Try.prog 9 #[.slice ao n cap] w fun e w' => IntsOr w.heap.size w' e n (invTo f n) (prmE n f) ∧ Below w.heap.size w w' := by
  have HC := Lib.hid hc
  clear hc
  cases hp : permB n f with
  | false =>
    have HE : Hid (prmE n f = 40) := Lib.hid (by unfold prmE; rw [hp]; rfl)
    have HP := Lib.hid hp
    clear hp
    go_enter Try.func9, Try.ntmps9
    go_wp2_with fail
    refine (validPerm_any n cap ao f _ hn HC.out).mono ?_
    rintro e w1 ⟨rfl, hb⟩
    rw [HP.out]
    have D1 := Lib.hid hb
    clear hb
    go_wp2_with fail
    go_returns
    exact ⟨.inr ⟨by rw [HE.out]; decide, by rw [HE.out] <;> rfl⟩, D1.out⟩
  | true =>
    have HE : Hid (prmE n f = 0) := Lib.hid (by unfold prmE; rw [hp]; rfl)
    have HP := Lib.hid hp
    clear hp
    go_enter Try.func9, Try.ntmps9
    go_wp2_with fail
    refine (validPerm_any n cap ao f _ hn HC.out).mono ?_
    rintro e w1 ⟨rfl, hb⟩
    rw [HP.out]
    have HC1 := Lib.hid (HC.out.keep hb)
    have D1 := Lib.hid hb
    clear hb
    go_wp2_with fail
    refine (inverse_any n cap ao f _ HC1.out HP.out).mono ?_
    rintro e w2 ⟨⟨g, cap', rfl, hw, hB, hlt, _, _⟩, hb⟩
    have HW := Lib.hid hw
    have D2 := Lib.hid (D1.out.trans (hb.mono D1.out.size))
    have hs1 := D1.out.size
    have hsB := Nat.le_trans hs1 hB
    clear hw hb
    go_wp2_with fail
    go_returns
    exact ⟨.inl ⟨HE.out, g, cap', rfl, HW.out, hsB, hlt⟩, D2.out⟩

set_option maxRecDepth 100000 in
set_option maxHeartbeats 2000000 in
theorem rInvert_any (n cap : Nat) (ao : Option Addr) (f : Nat → Int) (w : World) (hn : n ≤ 9223372036854775807) (hc : Ints w ao n f) :
    Calls Try.prog 10 #[.slice ao n cap] w fun e w' => IntsOr w.heap.size w' e n (invTo f n) (prmE n f) ∧ Below w.heap.size w w' := by
  have HC := Lib.hid hc
  clear hc
  cases hp : permB n f with
  | false =>
    have HE : Hid (prmE n f = 40) := Lib.hid (by unfold prmE; rw [hp]; rfl)
    have HP := Lib.hid hp
    clear hp
    go_enter Try.func10, Try.ntmps10
    go_wp2_with fail
    refine (rValidPerm_any n cap ao f _ hn HC.out).mono ?_
    rintro e w1 ⟨rfl, hb⟩
    rw [HP.out]
    have D1 := Lib.hid hb
    clear hb
    go_wp2_with fail
    go_returns
    exact ⟨.inr ⟨by rw [HE.out]; decide, by rw [HE.out] <;> rfl⟩, D1.out⟩
  | true =>
    have HE : Hid (prmE n f = 0) := Lib.hid (by unfold prmE; rw [hp]; rfl)
    have HP := Lib.hid hp
    obtain ⟨h1, h64, hrg⟩ := permB_yes hp
    have HRG := Lib.hid hrg
    obtain ⟨i0, hi, hz0, hz1, hz2⟩ := info_parts infoInt
    have HI := Lib.hid (And.intro hi (And.intro hz0 (And.intro hz1 hz2)))
    have h64' : (n : Int) ≤ 64 := by omega
    clear hi hz0 hz1 hz2 hp hrg
    go_enter Try.func10, Try.ntmps10
    go_wp2_with fail
    refine (rValidPerm_any n cap ao f _ hn HC.out).mono ?_
    rintro e w2 ⟨rfl, hb⟩
    rw [HP.out]
    have D2 := Lib.hid hb
    have hs2 : w.heap.size ≤ w2.heap.size := D2.out.size
    clear hb
    go_wp2_with (refine wpList_make_full _ rfl (.tmp 10) (.tmp 10) 22 rfl w2.heap.size 3 i0 _ 1 Try.underlying22 HI.out.1 HI.out.2.1 HI.out.2.2.1 .i64 .i64 _ _ n rfl rfl (by simp) (by simp) ?c1 ?c2 ?c3 ?_)
    case c1 => rw [HI.out.2.2.2]; omega
    case c2 => unfold maxLen; omega
    case c3 => exact Nat.le_refl _
    intro w3 hown hgrow
    have HW : Hid (Intw w3 w2.heap.size n (fun _ => 0)) := Lib.hid (Intw.of_own hown fun i hi => made_get n i hi)
    have hlt3 : w2.heap.size < w3.heap.size := (hown.lt _ rfl).2
    have D3 : Below w.heap.size w w3 := Below.grown D2.out hgrow hs2 (fun k hk => by cases hk)
    clear hown hgrow
    go_wp2_with fail
    go_loopw [5] (fun i wr => ∃ k : Nat, i = .int .i64 k ∧ k ≤ n ∧ Hid (Intw wr w2.heap.size n (invTo f k)) ∧ Below w.heap.size w wr ∧ w2.heap.size < wr.heap.size) (fun i _ => n - (intOf i).toNat)
    case atStart => exact ⟨0, rfl, Nat.zero_le _, HW, D3, hlt3⟩
    case round =>
      obtain ⟨k, rfl, hk, HK, hbel, hsz⟩ := hrel
      by_cases hlt : k < n
      · have hlt' : (k : Int) < (n : Int) := by omega
        obtain ⟨b, o, rfl, hcell⟩ := (Ints.keep HC.out hbel) (by omega)
        have c0 := hcell k hlt
        obtain ⟨hx0, hxn, _⟩ := HRG.out k hlt
        obtain ⟨y, hy⟩ : ∃ y : Nat, f k = y := ⟨(f k).toNat, by omega⟩
        rw [hy] at c0 hx0 hxn
        have hyn : y < n := by omega
        obtain ⟨d0, e0⟩ := HK.out y hyn
        have HS : Hid (Intw (wr.setCell ⟨w2.heap.size, y, none⟩ (.int .i64 k)) w2.heap.size n (invTo f (k + 1))) := Lib.hid ((HK.out.store hyn k).congr fun i _ => by
          simp only [invTo, updI]; rw [hy]; simp only [Int.toNat_natCast])
        clear hcell hy hx0
        go_wp2_with fail
        go_roundw
        case rel => exact ⟨k + 1, by go_num, by omega, HS, by go_grown, by simpa using hsz⟩
        case measure => simp [intOf]; omega
      · obtain rfl : k = n := by omega
        go_wp2_with fail
        go_returns
        exact ⟨.inl ⟨HE.out, w2.heap.size, k, rfl, HK.out, hs2, hsz⟩, hbel⟩
end Go.Proofs.Ytpjfpkhcadombaa
