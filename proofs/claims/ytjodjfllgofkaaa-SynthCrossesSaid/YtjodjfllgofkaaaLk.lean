import Derived.Test.YtjodjfllgofkaaaIb
import Derived.RegionTactic
import Derived.Test.YtjodjfllgofkaaaPo
import Derived.Test.YtjodjfllgofkaaaCi
import Derived.Test.YtjodjfllgofkaaaRq
import Derived.Test.YtjodjfllgofkaaaEn
import Derived.Test.YtjodjfllgofkaaaSn
namespace Prm
def sameTo (f g : Nat → Int) : Nat → Bool
  | 0 => true
  | k + 1 => sameTo f g k && decide (f k = g k)
theorem sameTo_stop {f g : Nat → Int} {k : Nat} (h : ¬ f k = g k) : ∀ m, k < m → sameTo f g m = false := by
  intro m
  induction m with
  | zero => intro h; omega
  | succ m ih =>
    intro hk
    simp only [sameTo]
    by_cases e : k = m
    · subst e; rw [decide_eq_false h]; simp
    · rw [ih (by omega)]; rfl
theorem sameTo_all {f g : Nat → Int} {n : Nat} (h : ∀ i, i < n → f i = g i) : sameTo f g n = true := by
  induction n with
  | zero => rfl
  | succ n ih => simp only [sameTo]; rw [ih fun i hi => h i (by omega), decide_eq_true (h n (by omega))]; rfl
/-- Are two lists the same? -/
def sameB (n m : Nat) (f g : Nat → Int) : Bool := decide (n = m) && sameTo f g n
theorem sameB_yes {n : Nat} {f g : Nat → Int} (h : ∀ i, i < n → f i = g i) : sameB n n f g = true := by unfold sameB; rw [decide_eq_true rfl, sameTo_all h]; rfl
end Prm
namespace Go.Proofs.Ytjodjfllgofkaaa
open Go.RowKit Prm
set_option maxRecDepth 100000 in
set_option maxHeartbeats 2000000 in
theorem same_any (n m cap dap : Nat) (ao bo : Option Addr) (f g : Nat → Int) (w : World) (hn : n ≤ 9223372036854775807) (hm : m ≤ 9223372036854775807) (hc : Ints w ao n f) (hd : Ints w bo m g) :
    Calls Try.prog 41 #[.slice ao n cap, .slice bo m dap] w fun e w' => e = .returned (.bool (sameB n m f g)) ∧ Below w.heap.size w w' := by
  have HC := Lib.hid hc
  have HD := Lib.hid hd
  clear hc hd
  by_cases hnm : n = m
  · subst hnm
    have HE : Hid (sameB n n f g = sameTo f g n) := Lib.hid (by unfold sameB; rw [decide_eq_true rfl]; rfl)
    go_enter Try.func41, Try.ntmps41
    go_wp2_with fail
    go_loopw [5] (fun i wr => ∃ k : Nat, i = .int .i64 k ∧ k ≤ n ∧ Hid (sameTo f g k = true) ∧ Below w.heap.size w wr) (fun i _ => n - (intOf i).toNat)
    case atStart => exact ⟨0, rfl, Nat.zero_le _, Lib.hid rfl, by go_grown⟩
    case round =>
      obtain ⟨k, rfl, hk, HK, hbel⟩ := hrel
      by_cases hlt : k < n
      · have hlt' : (k : Int) < (n : Int) := by omega
        obtain ⟨b, o, rfl, hcell⟩ := (Ints.keep HC.out hbel) (by omega)
        obtain ⟨b', o', rfl, hcell'⟩ := (Ints.keep HD.out hbel) (by omega)
        have c0 := hcell k hlt
        have d0 := hcell' k hlt
        obtain ⟨x, hx⟩ : ∃ x, f k = x := ⟨_, rfl⟩
        obtain ⟨y, hy⟩ : ∃ y, g k = y := ⟨_, rfl⟩
        rw [hx] at c0
        rw [hy] at d0
        have HX := Lib.hid hx
        have HY := Lib.hid hy
        clear hcell hcell' hx hy
        by_cases hxy : x = y
        · have HK2 : Hid (sameTo f g (k + 1) = true) := Lib.hid (by simp only [sameTo]; rw [HK.out, decide_eq_true (by rw [HX.out, HY.out, hxy])]; rfl)
          subst hxy
          go_wp2_with fail
          go_region
          all_goals
            go_wp2_with fail
            go_roundw
            case rel => exact ⟨k + 1, by go_num, by omega, HK2, by go_grown⟩
            case measure => simp [intOf]; omega
        · have HF : Hid (sameTo f g n = false) := Lib.hid (sameTo_stop (k := k) (by rw [HX.out, HY.out]; exact hxy) n hlt)
          have hq : (x != y) = true := bne_iff_ne.2 hxy
          have hq2 : (x == y) = false := beq_eq_false_iff_ne.2 hxy
          clear hxy
          go_wp2_with fail
          go_region
          all_goals
            go_wp2_with fail
            go_returns
            exact ⟨by rw [HE.out, HF.out] <;> rfl, by go_grown⟩
      · obtain rfl : k = n := by omega
        go_wp2_with fail
        go_returns
        exact ⟨by rw [HE.out, HK.out] <;> rfl, hbel⟩
  · have hq : ((n : Int) != (m : Int)) = true := bne_iff_ne.2 (by omega)
    have hq2 : ((n : Int) == (m : Int)) = false := beq_eq_false_iff_ne.2 (by omega)
    have HE : Hid (sameB n m f g = false) := Lib.hid (by unfold sameB; rw [decide_eq_false hnm]; rfl)
    clear hnm
    go_enter Try.func41, Try.ntmps41
    go_wp2_with fail
    go_returns
    exact ⟨by rw [HE.out] <;> rfl, by go_grown⟩
end Go.Proofs.Ytjodjfllgofkaaa

namespace Go.Proofs.Ytjodjfllgofkaaa
open Go.RowKit Prm Amp
set_option maxRecDepth 100000 in
set_option maxHeartbeats 4000000 in
theorem permOf_any (N : Int) (len cap : Nat) (ao : Option Addr) (f : Nat → It) (w : World) (hlen : len ≤ 9223372036854775807) (hc : Its w ao len f) :
    Calls Try.prog 40 #[.int .i64 N, .slice ao len cap] w fun e w' => PermIs w' e N.toNat (trcF f len) (decide (askS N len f = 0) && crossTo f len) (askS N len f) ∧ Below w.heap.size w w' := by
  have HC := Lib.hid hc
  clear hc
  by_cases ha : ¬ askS N len f = 0
  · obtain ⟨er, her⟩ : ∃ er, askS N len f = er := ⟨_, rfl⟩
    rw [her] at ha
    have HB : Hid ((decide (askS N len f = 0) && crossTo f len) = false) := Lib.hid (by rw [her, decide_eq_false ha]; rfl)
    have HER := Lib.hid her
    have hb0 : (er == 0) = false := beq_eq_false_iff_ne.2 ha
    have hb1 : (er != 0) = true := bne_iff_ne.2 ha
    rw [HB.out, HER.out]
    clear ha her
    go_enter Try.func40, Try.ntmps40
    go_wp2_with fail
    refine (checkItems_any N len cap ao f _ hlen HC.out).mono ?_
    rw [HER.out]
    rintro e w1 ⟨rfl, hb⟩
    have D1 := Lib.hid hb
    clear hb
    go_wp2_with fail
    go_returns
    exact ⟨⟨none, 0, rfl, fun h => absurd h (by simp [permL])⟩, D1.out⟩
  have ha0 : askS N len f = 0 := Decidable.not_not.1 ha
  have HER := Lib.hid ha0
  obtain ⟨hN1, hN6, hl5, hfit⟩ := askOk ha0
  obtain ⟨n, rfl⟩ : ∃ n : Nat, N = n := ⟨N.toNat, by omega⟩
  rw [Int.toNat_natCast] at hfit
  rw [Int.toNat_natCast]
  have HF := Lib.hid hfit
  have hl5' : (len : Int) ≤ 5000 := by omega
  have hn6 : n ≤ 6 := by omega
  have hn1 : 1 ≤ n := by omega
  obtain ⟨bb, hbb⟩ : ∃ bb, crossTo f len = bb := ⟨_, rfl⟩
  have HBB := Lib.hid hbb
  have HB : Hid ((decide (askS n len f = 0) && crossTo f len) = bb) := Lib.hid (by rw [ha0, decide_eq_true rfl, hbb]; rfl)
  rw [HB.out, HER.out]
  clear ha ha0 hfit hbb
  go_enter Try.func40, Try.ntmps40
  go_wp2_with fail
  refine (checkItems_any n len cap ao f _ hlen HC.out).mono ?_
  rw [HER.out]
  rintro e w1 ⟨rfl, hb⟩
  have D1 := Lib.hid hb
  clear hb
  go_wp2_with fail
  refine (sIdentity_any n _ hn6).mono ?_
  rintro e w2 ⟨⟨g, gcap, rfl, hiw, hgB, hgs, _, _⟩, hb⟩
  have HI := Lib.hid hiw
  have D2 := Lib.hid (D1.out.trans (hb.mono D1.out.size))
  have hgw : w.heap.size ≤ g := Nat.le_trans D1.out.size hgB
  clear hb hiw hgB
  go_wp2_with fail
  go_loopw [10, 21] (fun _ i wr => ∃ k : Nat, i = .int .i64 k ∧ k ≤ len ∧ Hid (crossTo f k = true) ∧ Hid (Intw wr g n (ltF f k)) ∧ Below w.heap.size w wr ∧ g < wr.heap.size) (fun _ i _ => len - (intOf i).toNat)
  case atStart => exact ⟨0, rfl, Nat.zero_le _, Lib.hid rfl, HI, D2.out, hgs⟩
  case round =>
    obtain ⟨k, rfl, hk, HK, HL, hbel, hsz⟩ := hrel
    clear HI hgs
    by_cases hlt : k < len
    · have hlt' : (k : Int) < (len : Int) := by omega
      obtain ⟨b, o, rfl, hcell⟩ := (Its.keep HC.out hbel) (by omega)
      obtain ⟨⟨kd, at', m, nm⟩, hx⟩ : ∃ x : It, f k = x := ⟨_, rfl⟩
      have hz := hcell k hlt
      have hfk := fitAt HF.out hlt
      rw [hx] at hz hfk
      have HFK := Lib.hid hfk
      have HX := Lib.hid hx
      obtain ⟨c0, c1, c2, c3, c4⟩ := hz
      simp only at c0 c1 c2 c3 c4
      have HNM := Lib.hid c4
      clear hcell hx c4 hfk
      by_cases h3 : kd = 3
      · subst h3
        obtain ⟨hat, hae⟩ := itF_cross HFK.out rfl
        obtain ⟨a, hA⟩ : ∃ a, itA ⟨3, at', m, nm⟩ = a := ⟨_, rfl⟩
        rw [hA] at hat hae
        have HAA := Lib.hid hA
        simp only at hat
        obtain rfl : at' = (a : Int) + 1 := hat
        have ha4 : (a : Int) ≤ 4 := by omega
        have han : (a : Int) + 1 < n := by omega
        have han' : (a : Int) < n := by omega
        have HK2 : Hid (crossTo f (k + 1) = true) := Lib.hid (by simp only [crossTo]; rw [HK.out, HX.out]; rfl)
        obtain ⟨x, hx⟩ : ∃ x, ltF f k a = x := ⟨_, rfl⟩
        obtain ⟨y, hy⟩ : ∃ y, ltF f k (a + 1) = y := ⟨_, rfl⟩
        obtain ⟨d0, e0⟩ := HL.out a (by omega)
        obtain ⟨d1, e1⟩ := HL.out (a + 1) (by omega)
        rw [hx] at d0
        rw [hy] at d1
        have HS : Hid (Intw ((wr.setCell ⟨g, a, none⟩ (.int .i64 y)).setCell ⟨g, a + 1, none⟩ (.int .i64 x)) g n (ltF f (k + 1))) := Lib.hid (by
          rw [ltF_succ, HX.out, HAA.out]; exact HL.out.swap (by omega) hx hy)
        clear hA hx hy hae
        go_wp2_with fail
        go_region
        all_goals
          go_wp2_with fail
          go_roundw
          case rel => exact ⟨k + 1, by go_num, by omega, HK2, Lib.hid (HS.out.keep (by go_grown)), by go_grown, by first | (simpa using hsz) | (simp; omega)⟩
          case measure => simp [intOf]; omega
      · have HE : Hid (bb = false) := Lib.hid (by rw [← HBB.out]; exact crossTo_stop (by rw [HX.out]; exact h3) len hlt)
        have hb0 : (kd == 3) = false := beq_eq_false_iff_ne.2 h3
        have hb1 : (kd != 3) = true := bne_iff_ne.2 h3
        clear h3
        go_wp2_with fail
        go_returns
        exact ⟨⟨none, 0, by rw [HE.out] <;> rfl, fun h => absurd h (by rw [HE.out]; simp [permL])⟩, by go_grown⟩
    · obtain rfl : k = len := by omega
      obtain rfl : bb = true := by rw [← HBB.out]; exact HK.out
      have HP := Lib.hid (ltF_perm hn1 hn6 HF.out HK.out k (Nat.le_refl _))
      go_wp2_with fail
      refine (inverse_any n gcap (some ⟨g, 0, none⟩) (ltF f k) _ HL.out.ints HP.out).mono ?_
      rintro e w4 ⟨⟨g4, c4, rfl, hw4, _, _, _, _⟩, hb⟩
      have HW4 := Lib.hid hw4
      have D4 := Lib.hid (hbel.trans (hb.mono hbel.size))
      clear hb hw4 hbel
      go_wp2_with fail
      go_returns
      exact ⟨⟨_, c4, rfl, (HW4.out.congr fun i hi => invTo_trcF hn1 hn6 HF.out HK.out hi).ints⟩, D4.out⟩

end Go.Proofs.Ytjodjfllgofkaaa

namespace Prm
open Amp
theorem eqTo_all {f g : Nat → Nm} {n : Nat} (h : ∀ k, k < n → f k = g k) : eqTo f g n = true := by
  induction n with
  | zero => rfl
  | succ n ih => simp only [eqTo]; rw [ih fun k hk => h k (by omega), h n (by omega)]; simp
theorem runs_end {n : Nat} {f : Nat → Int} : ∀ (m : Nat) (l : List Nat) (g : Nat → Int), Runs n f l g → inv n g = m → ∃ l' g', Runs n f l' g' ∧ desc g' (n - 1) 0 = none := by
  intro m
  induction m with
  | zero =>
    intro l g h e
    cases hd : desc g (n - 1) 0 with
    | none => exact ⟨l, g, h, hd⟩
    | some k =>
      obtain ⟨_, h2, h3⟩ := desc_some hd
      have := inv_swp (n := n) (show k + 1 < n by omega) h3
      omega
  | succ m ih =>
    intro l g h e
    cases hd : desc g (n - 1) 0 with
    | none => exact ⟨l, g, h, hd⟩
    | some k =>
      obtain ⟨_, h2, h3⟩ := desc_some hd
      have := inv_swp (n := n) (show k + 1 < n by omega) h3
      exact ih _ _ (h.step hd) (by omega)
end Prm
namespace Go.Proofs.Ytjodjfllgofkaaa
open Go.RowKit Amp Prm
/-- What the crossings of a small permutation are. -/
theorem cross_all {n : Nat} {f : Nat → Int} (hp : permB n f = true) (h6 : n ≤ 6) : (exs n (inv n f) f).length = inv n f ∧ inv n f ≤ 36 ∧ askS n (exs n (inv n f) f).length (itsC (exs n (inv n f) f)) = 0 ∧ crossTo (itsC (exs n (inv n f) f)) (exs n (inv n f) f).length = true ∧ (prodS n (itsC (exs n (inv n f) f)) (exs n (inv n f) f).length).2 = 0 ∧ (∀ k, k < n * n → (prodS n (itsC (exs n (inv n f) f)) (exs n (inv n f) f).length).1 k = pmF n f k) ∧ ∀ i, i < n → trcF (itsC (exs n (inv n f) f)) (exs n (inv n f) f).length i = f i := by
  obtain ⟨l, g, hR, hd⟩ := runs_end _ [] f (.nil : Runs n f [] f) rfl
  have e := hR.all hd
  rw [← e]
  have hi := hR.inv
  rw [inv_none hd] at hi
  have hl := inv_le n f
  have h36 := Nat.mul_le_mul h6 h6
  obtain ⟨a, b⟩ := cross_mat h6 hR hp hd
  exact ⟨by omega, by omega, ask_cr (permB_yes hp).1 h6 (by omega) hR.small, (fit_cr hR.small l.length (Nat.le_refl _)).2, a, b, cross_perm h6 hR hp hd⟩
set_option maxRecDepth 100000 in
set_option maxHeartbeats 4000000 in
theorem crosses_bad (n cap : Nat) (ao : Option Addr) (f : Nat → Int) (w : World) (hn : n ≤ 70) (hc : Ints w ao n f) (hp : csE n f ≠ 0) :
    Calls Try.prog 7 #[.slice ao n cap] w fun e w' => e = .returned (.bool true) ∧ Below w.heap.size w w' := by
  have HC := Lib.hid hc
  have h70 : (n : Int) ≤ 70 := by omega
  have HPN := Lib.hid hp
  obtain ⟨er, her⟩ : ∃ er, csE n f = er := ⟨_, rfl⟩
  rw [her] at hp
  have HER := Lib.hid her
  have hb0 : (er == 0) = false := beq_eq_false_iff_ne.2 hp
  have hb1 : (er != 0) = true := bne_iff_ne.2 hp
  clear hc hp her
  go_enter Try.func7, Try.ntmps7
  go_wp2_with fail
  refine (crossings_no n cap ao f _ (by omega) HC.out HPN.out).mono ?_
  rw [HER.out]
  rintro e w1 ⟨rfl, hb⟩
  have D1 := Lib.hid hb
  clear hb
  go_wp2_with fail
  refine (rCrossings_no n cap ao f _ (by omega) (HC.out.keep D1.out) HPN.out).mono ?_
  rw [HER.out]
  rintro e w2 ⟨rfl, hb⟩
  have D2 := Lib.hid (D1.out.trans (hb.mono D1.out.size))
  clear hb D1
  go_wp2_with fail
  refine (permMatrix_no n cap ao f _ (by omega) (HC.out.keep D2.out) HPN.out).mono ?_
  rw [HER.out]
  rintro e w3 ⟨rfl, hb⟩
  have D3 := Lib.hid (D2.out.trans (hb.mono D2.out.size))
  clear hb D2
  go_wp2_with fail
  have D3' := Lib.hid (D3.out.alloc D3.out.size (.cells #[.int .i64 0, .slice none 0 0] 26))
  refine (rPermMatrix_no n cap ao f _ (by omega) (HC.out.keep D3'.out) HPN.out).mono ?_
  rw [HER.out]
  rintro e w4 ⟨rfl, hb⟩
  have D4 := Lib.hid (D3'.out.trans (hb.mono D3'.out.size))
  have q0 := (hb.cell (p := ⟨w3.heap.size, 0, none⟩) (by simp)).trans (by go_cell : _ = some (.int .i64 0))
  have q1 := (hb.cell (p := ⟨w3.heap.size, 1, none⟩) (by simp)).trans (by go_cell : _ = some (.slice none 0 0))
  have hz4 : w3.heap.size < w4.heap.size := by have := hb.size; simp at this; omega
  have HQ := Lib.hid (And.intro q0 q1)
  clear hb D3 D3' q0 q1
  go_wp2_with fail
  have D4' := Lib.hid (D4.out.alloc D4.out.size (.cells #[.int .i64 0, .slice none 0 0] 26))
  refine (sameItems_yes 0 0 0 none none (fun _ => crIt 0) _ (by omega) (fun h => absurd h (by omega)) (fun h => absurd h (by omega))).mono ?_
  rintro e w5 ⟨rfl, hb⟩
  have D5 := Lib.hid (D4'.out.trans (hb.mono D4'.out.size))
  have a0 := (hb.cell (p := ⟨w3.heap.size, 0, none⟩) (by simp; omega)).trans ((((Below.refl _ w4).alloc (Nat.le_refl _) _).cell (p := ⟨w3.heap.size, 0, none⟩) hz4).trans HQ.out.1)
  have a1 := (hb.cell (p := ⟨w3.heap.size, 1, none⟩) (by simp; omega)).trans ((((Below.refl _ w4).alloc (Nat.le_refl _) _).cell (p := ⟨w3.heap.size, 1, none⟩) hz4).trans HQ.out.2)
  have b0 := (hb.cell (p := ⟨w4.heap.size, 0, none⟩) (by simp)).trans (by go_cell : _ = some (.int .i64 0))
  have b1 := (hb.cell (p := ⟨w4.heap.size, 1, none⟩) (by simp)).trans (by go_cell : _ = some (.slice none 0 0))
  clear hb D4 D4'
  go_wp2_with fail
  refine (rSame_any 0 none none 0 0 0 (fun _ => N0) (fun _ => N0) _ (by omega) (fun h => absurd h (by omega)) (fun h => absurd h (by omega))).mono ?_
  rw [show eqTo (fun _ => N0) (fun _ => N0) 0 = true from rfl]
  rintro e w6 ⟨rfl, hb⟩
  have D6 := Lib.hid (D5.out.trans (hb.mono D5.out.size))
  clear hb D5 a0 a1 b0 b1
  go_wp2_with fail
  refine (sane_any _).mono ?_
  rintro e w7 ⟨rfl, hb⟩
  have D7 := D6.out.trans (hb.mono D6.out.size)
  clear hb
  go_wp2_with fail
  go_returns
  exact ⟨rfl, D7⟩

set_option maxRecDepth 100000 in
set_option maxHeartbeats 4000000 in
theorem crosses_ok (n cap b o : Nat) (f : Nat → Int) (w : World) (hc : ∀ i, i < n → w.cell? ⟨b, o + i, none⟩ = some (.int .i64 (f i))) (hp : permB n f = true) (h6 : n ≤ 6) :
    Calls Try.prog 7 #[.slice (some ⟨b, o, none⟩) n cap] w fun e w' => e = .returned (.bool true) ∧ Below w.heap.size w w' := by
  obtain ⟨h1, _, _⟩ := permB_yes hp
  have hbs : b < w.heap.size := World.block_lt_of_cell? w _ (hc 0 (by omega))
  have HCI : Hid (Ints w (some ⟨b, o, none⟩) n f) := Lib.hid fun _ => ⟨b, o, rfl, hc⟩
  have HCC : Hid (∀ w', Below w.heap.size w w' → ∀ i, i < n → w'.cell? ⟨b, o + i, none⟩ = some (.int .i64 (f i))) := Lib.hid fun w' h i hi => (h.cell (p := ⟨b, o + i, none⟩) hbs).trans (hc i hi)
  have HP := Lib.hid hp
  have h70 : (n : Int) ≤ 70 := by omega
  have HCA := Lib.hid (cross_all hp h6)
  obtain ⟨l0, hl0⟩ : ∃ l, exs n (inv n f) f = l := ⟨_, rfl⟩
  rw [hl0] at HCA
  have HL0 := Lib.hid hl0
  obtain ⟨L, hL⟩ : ∃ L, l0.length = L := ⟨_, rfl⟩
  rw [hL] at HCA
  have HL := Lib.hid hL
  obtain ⟨v, hv⟩ : ∃ v, inv n f = v := ⟨_, rfl⟩
  rw [hv] at HCA
  have HV := Lib.hid hv
  have hLv : L = v := HCA.out.1
  have h36 : (v : Int) ≤ 36 := by have := HCA.out.2.1; omega
  subst hLv
  clear hc hp hl0 hL hv
  go_enter Try.func7, Try.ntmps7
  go_wp2_with fail
  refine (crossings_ok n cap b o f _ (HCC.out _ (Below.refl _ _)) HP.out h6).mono ?_
  rw [HL0.out]
  rintro e w1 ⟨⟨ao, ac, rfl, hi1⟩, hb⟩
  rw [HL.out] at hi1
  rw [HL.out]
  have HI1 : Hid (Its w1 ao L (itsC l0)) := Lib.hid hi1
  have D1 := Lib.hid hb
  clear hb hi1
  go_wp2_with fail
  refine (rCrossings_ok n cap b o f _ (HCC.out _ D1.out) HP.out h6).mono ?_
  rw [HL0.out]
  rintro e w2 ⟨⟨ao2, ac2, rfl, hi2⟩, hb⟩
  rw [HL.out] at hi2
  rw [HL.out]
  have HI2 : Hid (Its w2 ao2 L (itsC l0)) := Lib.hid hi2
  have HI1 := Lib.hid (HI1.out.keep hb)
  have D2 := Lib.hid (D1.out.trans (hb.mono D1.out.size))
  clear hb hi2 D1
  go_wp2_with fail
  refine (permMatrix_ok n cap _ f _ (HCI.out.keep D2.out) HP.out h6).mono ?_
  rintro e w3 ⟨⟨ga, ca, rfl, hwa, _, hca, _⟩, hb⟩
  have HA := Lib.hid hwa
  have HI1 := Lib.hid (HI1.out.keep hb)
  have HI2 := Lib.hid (HI2.out.keep hb)
  have D3 := Lib.hid (D2.out.trans (hb.mono D2.out.size))
  clear hb hwa D2
  go_wp2_with fail
  have D3' := Lib.hid (D3.out.alloc D3.out.size (.cells #[.int .i64 n, .slice (some ⟨ga, 0, none⟩) (n * n) ca] 26))
  refine (rPermMatrix_ok n cap _ f _ (HCI.out.keep D3'.out) HP.out h6).mono ?_
  rintro e w4 ⟨⟨gb, cb, rfl, hwb, _, hcb, _⟩, hb⟩
  have hb3 : Below w3.heap.size w3 w4 := ((Below.refl _ w3).alloc (Nat.le_refl _) _).trans (hb.mono (by simp))
  have HA := Lib.hid (HA.out.keep hb3)
  have HB := Lib.hid hwb
  have HI1 := Lib.hid (HI1.out.keep hb3)
  have HI2 := Lib.hid (HI2.out.keep hb3)
  have D4 := Lib.hid (D3'.out.trans (hb.mono D3'.out.size))
  have q0 := (hb.cell (p := ⟨w3.heap.size, 0, none⟩) (by simp)).trans (by go_cell : _ = some (.int .i64 n))
  have q1 := (hb.cell (p := ⟨w3.heap.size, 1, none⟩) (by simp)).trans (by go_cell : _ = some (.slice (some ⟨ga, 0, none⟩) (n * n) ca))
  have hz4 : w3.heap.size < w4.heap.size := by have := hb.size; simp at this; omega
  have HQ := Lib.hid (And.intro q0 q1)
  clear hb hb3 hwb D3 D3' q0 q1
  go_wp2_with fail
  have hb4 := Lib.hid ((Below.refl _ w4).alloc (Nat.le_refl _) (.cells #[.int .i64 n, .slice (some ⟨gb, 0, none⟩) (n * n) cb] 26))
  have D4' := Lib.hid (D4.out.alloc D4.out.size (.cells #[.int .i64 n, .slice (some ⟨gb, 0, none⟩) (n * n) cb] 26))
  refine (sameItems_yes L ac ac2 ao ao2 (itsC l0) _ (by omega) (HI1.out.keep hb4.out) (HI2.out.keep hb4.out)).mono ?_
  rintro e w5 ⟨rfl, hb⟩
  have hb5 : Below w4.heap.size w4 w5 := hb4.out.trans (hb.mono (by simp))
  have D5 := Lib.hid (D4'.out.trans (hb.mono D4'.out.size))
  have a0 := (hb5.cell (p := ⟨w3.heap.size, 0, none⟩) hz4).trans HQ.out.1
  have a1 := (hb5.cell (p := ⟨w3.heap.size, 1, none⟩) hz4).trans HQ.out.2
  have b0 := (hb.cell (p := ⟨w4.heap.size, 0, none⟩) (by simp)).trans (by go_cell : _ = some (.int .i64 n))
  have b1 := (hb.cell (p := ⟨w4.heap.size, 1, none⟩) (by simp)).trans (by go_cell : _ = some (.slice (some ⟨gb, 0, none⟩) (n * n) cb))
  have HA := Lib.hid (HA.out.keep hb5)
  have HB := Lib.hid (HB.out.keep hb5)
  have HI1 := Lib.hid (HI1.out.keep hb5)
  have HQ5 := Lib.hid (And.intro a0 a1)
  have hz5 : w3.heap.size < w5.heap.size := by have := hb5.size; omega
  have h36n : n * n ≤ 36 := Nat.mul_le_mul h6 h6
  have H36 := Lib.hid h36n
  clear hb hb5 hb4 D4 D4' HI2 h36n
  go_wp2_with fail
  refine (rSame_any n (some ⟨ga, 0, none⟩) (some ⟨gb, 0, none⟩) (n * n) ca cb (pmF n f) (pmF n f) _ (by have := H36.out; omega) HA.out.nums HB.out.nums).mono ?_
  rw [eqTo_all fun _ _ => rfl]
  rintro e w6 ⟨rfl, hb⟩
  have D6 := Lib.hid (D5.out.trans (hb.mono D5.out.size))
  have HA := Lib.hid (HA.out.keep hb)
  have HI1 := Lib.hid (HI1.out.keep hb)
  have c0 := (hb.cell (p := ⟨w3.heap.size, 0, none⟩) hz5).trans HQ5.out.1
  have c1 := (hb.cell (p := ⟨w3.heap.size, 1, none⟩) hz5).trans HQ5.out.2
  have hz6 : w3.heap.size < w6.heap.size := by have := hb.size; omega
  have HQ6 := Lib.hid (And.intro c0 c1)
  clear hb D5 a0 a1 b0 b1 HB c0 c1
  go_wp2_with fail
  refine (sane_any _).mono ?_
  rintro e w7 ⟨rfl, hb⟩
  have D7 := Lib.hid (D6.out.trans (hb.mono D6.out.size))
  have HA := Lib.hid (HA.out.keep hb)
  have HI1 := Lib.hid (HI1.out.keep hb)
  have c0 := (hb.cell (p := ⟨w3.heap.size, 0, none⟩) hz6).trans HQ6.out.1
  have c1 := (hb.cell (p := ⟨w3.heap.size, 1, none⟩) hz6).trans HQ6.out.2
  have hz7 : w3.heap.size < w7.heap.size := by have := hb.size; omega
  have HQ7 := Lib.hid (And.intro c0 c1)
  clear hb D6 c0 c1
  go_wp2_with fail
  refine (inversions_ok n cap b o f _ (HCC.out _ D7.out) HP.out).mono ?_
  rw [HV.out]
  rintro e w8 ⟨rfl, hb⟩
  have D8 := Lib.hid (D7.out.trans (hb.mono D7.out.size))
  have HA := Lib.hid (HA.out.keep hb)
  have HI1 := Lib.hid (HI1.out.keep hb)
  have c0 := (hb.cell (p := ⟨w3.heap.size, 0, none⟩) hz7).trans HQ7.out.1
  have c1 := (hb.cell (p := ⟨w3.heap.size, 1, none⟩) hz7).trans HQ7.out.2
  have hz8 : w3.heap.size < w8.heap.size := by have := hb.size; omega
  have HQ8 := Lib.hid (And.intro c0 c1)
  clear hb D7 c0 c1
  go_wp2_with fail
  refine (matrixOf_ok n L ac ao (itsC l0) _ (by omega) HI1.out (Lib.hid HCA.out.2.2.1)).mono ?_
  rintro e w9 ⟨h1, hb⟩
  rcases h1 with ⟨_, gm, cm, rfl, hwm, _, hcm, _⟩ | ⟨hne, rfl⟩
  · have HM : Hid (Numw w9 gm (n * n) (pmF n f)) := Lib.hid (hwm.congr HCA.out.2.2.2.2.2.1)
    have HA := Lib.hid (HA.out.keep hb)
    have HI1 := Lib.hid (HI1.out.keep hb)
    have D9 := Lib.hid (D8.out.trans (hb.mono D8.out.size))
    have c0 := (hb.cell (p := ⟨w3.heap.size, 0, none⟩) hz8).trans HQ8.out.1
    have c1 := (hb.cell (p := ⟨w3.heap.size, 1, none⟩) hz8).trans HQ8.out.2
    have hz9 : w3.heap.size < w9.heap.size := by have := hb.size; omega
    have HQ9 := Lib.hid (And.intro c0 c1)
    clear hb hwm D8 c0 c1
    go_wp2_with fail
    have hb9 := Lib.hid ((Below.refl _ w9).alloc (Nat.le_refl _) (.cells #[.int .i64 n, .slice (some ⟨gm, 0, none⟩) (n * n) cm] 26))
    have D9' := Lib.hid (D9.out.alloc D9.out.size (.cells #[.int .i64 n, .slice (some ⟨gm, 0, none⟩) (n * n) cm] 26))
    refine (permOf_any n L ac ao (itsC l0) _ (by omega) (HI1.out.keep hb9.out)).mono ?_
    rw [HCA.out.2.2.1, HCA.out.2.2.2.1, Int.toNat_natCast]
    rintro e w10 ⟨⟨ap, cp, rfl, hip⟩, hb⟩
    have hb10 : Below w9.heap.size w9 w10 := hb9.out.trans (hb.mono (by simp))
    have HIP : Hid (Ints w10 ap n (trcF (itsC l0) L)) := Lib.hid hip
    have HA := Lib.hid (HA.out.keep hb10)
    have HM := Lib.hid (HM.out.keep hb10)
    have D10 := Lib.hid (D9'.out.trans (hb.mono D9'.out.size))
    have c0 := (hb10.cell (p := ⟨w3.heap.size, 0, none⟩) hz9).trans HQ9.out.1
    have c1 := (hb10.cell (p := ⟨w3.heap.size, 1, none⟩) hz9).trans HQ9.out.2
    have m0 := (hb.cell (p := ⟨w9.heap.size, 0, none⟩) (by simp)).trans (by go_cell : _ = some (.int .i64 n))
    have m1 := (hb.cell (p := ⟨w9.heap.size, 1, none⟩) (by simp)).trans (by go_cell : _ = some (.slice (some ⟨gm, 0, none⟩) (n * n) cm))
    clear hb hb10 hb9 hip D9 D9'
    simp only [decide_true, Bool.true_and, permL, if_true]
    go_wp2_with fail
    refine (rSame_any n (some ⟨gm, 0, none⟩) (some ⟨ga, 0, none⟩) (n * n) cm ca (pmF n f) (pmF n f) _ (by have := H36.out; omega) HM.out.nums HA.out.nums).mono ?_
    rw [eqTo_all fun _ _ => rfl]
    rintro e w11 ⟨rfl, hb⟩
    have HIP := Lib.hid (HIP.out.keep hb)
    have D11 := Lib.hid (D10.out.trans (hb.mono D10.out.size))
    clear hb D10 c0 c1 m0 m1
    go_wp2_with fail
    refine (same_any n n cp cap ap (some ⟨b, o, none⟩) (trcF (itsC l0) L) f _ (by omega) (by omega) HIP.out (HCI.out.keep D11.out)).mono ?_
    rw [sameB_yes HCA.out.2.2.2.2.2.2]
    rintro e w12 ⟨rfl, hb⟩
    have D12 := D11.out.trans (hb.mono D11.out.size)
    clear hb
    go_wp2_with fail
    go_returns
    exact ⟨rfl, D12⟩
  · exact absurd HCA.out.2.2.2.2.1 hne

set_option maxRecDepth 100000 in
set_option maxHeartbeats 4000000 in
theorem SynthCrosses_any (n cap : Nat) (ao : Option Addr) (f : Nat → Int) (w : World) (hn : n ≤ 9223372036854775807) (hc : Ints w ao n f) :
    Calls Try.prog 7 #[.slice ao n cap] w fun e w' => e = .returned (.bool true) ∧ Below w.heap.size w w' := by
  by_cases h70 : 70 < n
  · have h70' : 70 < (n : Int) := by omega
    clear h70
    go_enter Try.func7, Try.ntmps7
    go_wp2_with fail
    refine (sane_any _).mono ?_
    rintro e w1 ⟨rfl, hb⟩
    go_wp2_with fail
    go_returns
    exact ⟨rfl, hb⟩
  by_cases hp : csE n f = 0
  · have h : permB n f = true ∧ n ≤ 6 := by
      unfold csE at hp
      split at hp
      · next h =>
        split at hp
        · next h6 => exact ⟨h, h6⟩
        · cases hp
      · cases hp
    obtain ⟨b, o, rfl, hcell⟩ := hc (by have := (permB_yes h.1).1; omega)
    exact crosses_ok n cap b o f w hcell h.1 h.2
  · exact crosses_bad n cap ao f w (by omega) hc hp
end Go.Proofs.Ytjodjfllgofkaaa
