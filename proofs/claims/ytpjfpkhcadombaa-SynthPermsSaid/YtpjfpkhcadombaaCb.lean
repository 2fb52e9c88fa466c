import Derived.Test.YtpjfpkhcadombaaCa
namespace Prm
/-- The inversions that end ahead of k. -/
def invK (f : Nat → Int) (k : Nat) : Nat := S k (fun b => S b (fun a => if f b < f a then 1 else 0))
theorem S_cut {n b : Nat} (hb : b ≤ n) (P : Nat → Prop) [DecidablePred P] : S n (fun a => if a < b ∧ P a then 1 else 0) = S b (fun a => if P a then 1 else 0) := by
  induction n with
  | zero => obtain rfl : b = 0 := by omega
            rfl
  | succ n ih =>
    by_cases e : b = n + 1
    · subst e
      exact S_congr fun a ha => by
        by_cases p : P a
        · rw [if_pos ⟨ha, p⟩, if_pos p]
        · rw [if_neg (fun h => p h.2), if_neg p]
    · simp only [S]
      rw [ih (by omega), if_neg (by omega)]; rfl
theorem inv_invK (n : Nat) (f : Nat → Int) : inv n f = invK f n := S_congr fun b hb => S_cut (by omega) (fun a => f b < f a)
theorem invK_le (f : Nat → Int) {n k : Nat} (hk : k ≤ n) : invK f k ≤ k * n := by
  rw [← S_const]
  refine S_le fun b hb => ?_
  have h1 : S b (fun a => if f b < f a then 1 else 0) ≤ S b (fun _ => 1) := S_le fun a _ => by split <;> omega
  rw [S_const] at h1
  omega
theorem cyC_le (n : Nat) (s : Nat → Nat) (l : Int) (m : Nat) : cyC n s l m ≤ m := by
  have h1 : cyC n s l m ≤ S m (fun _ => 1) := S_le fun a _ => by split <;> omega
  rw [S_const] at h1
  omega
theorem cyR_len (n : Nat) (s : Nat → Nat) (l : Nat) : (cyR n s l).length ≤ l * n := by
  induction l with
  | zero => simp [cyR]
  | succ l ih =>
    simp only [cyR, List.length_append, List.length_replicate, Nat.succ_mul]
    have := cyC_le n s ((l : Int) + 1) n
    omega
def cyO (n : Nat) (s : Nat → Nat) (l k : Nat) : List Int := cyR n s l ++ List.replicate (cyC n s ((l : Int) + 1) k) ((l : Int) + 1)
theorem cyO_zero (n : Nat) (s : Nat → Nat) (l : Nat) : cyO n s l 0 = cyR n s l := by simp [cyO, cyC, S]
theorem cyO_end (n : Nat) (s : Nat → Nat) (l : Nat) : cyO n s l n = cyR n s (l + 1) := rfl
theorem cyO_yes {n : Nat} {s : Nat → Nat} {l k : Nat} (h : lst n s k = true) (h2 : clen n s k = l + 1) : cyO n s l (k + 1) = cyO n s l k ++ [(l : Int) + 1] := by
  unfold cyO cyC
  simp only [S]
  rw [if_pos ⟨h, by omega⟩, List.replicate_succ', List.append_assoc]
theorem cyO_no {n : Nat} {s : Nat → Nat} {l k : Nat} (h : ¬ (lst n s k = true ∧ clen n s k = l + 1)) : cyO n s l (k + 1) = cyO n s l k := by
  unfold cyO cyC
  simp only [S]
  rw [if_neg (fun e => h ⟨e.1, by omega⟩), Nat.add_zero]
theorem cyO_len {n : Nat} {s : Nat → Nat} {l k : Nat} (hl : l ≤ 64) (hk : k ≤ n) (hn : n ≤ 64) : (cyO n s l k).length ≤ 4160 := by
  unfold cyO
  rw [List.length_append, List.length_replicate]
  have h1 := cyR_len n s l
  have h2 := cyC_le n s ((l : Int) + 1) k
  have h3 := Nat.mul_le_mul hl hn
  omega
end Prm
namespace Go.Proofs.Ytpjfpkhcadombaa
open Go.RowKit Prm

set_option maxRecDepth 100000 in
set_option maxHeartbeats 2000000 in
theorem rInversions_any (n cap : Nat) (ao : Option Addr) (f : Nat → Int) (w : World) (hn : n ≤ 9223372036854775807) (hc : Ints w ao n f) :
    Calls Try.prog 8 #[.slice ao n cap] w fun e w' => e = .returned (.tuple #[.int .i64 (if permB n f = true then (inv n f : Int) else 0), .int .i64 (prmE n f)]) ∧ Below w.heap.size w w' := by
  have HC := Lib.hid hc
  clear hc
  cases hp : permB n f with
  | false =>
    have HE : Hid (prmE n f = 40) := Lib.hid (by unfold prmE; rw [hp]; rfl)
    have HP := Lib.hid hp
    rw [if_neg (by simp)]
    clear hp
    go_enter Try.func8, Try.ntmps8
    go_wp2_with fail
    refine (rValidPerm_any n cap ao f _ hn HC.out).mono ?_
    rintro e w1 ⟨rfl, hb⟩
    rw [HP.out]
    have D1 := Lib.hid hb
    clear hb
    go_wp2_with fail
    go_returns
    exact ⟨by rw [HE.out] <;> rfl, D1.out⟩
  | true =>
  have HE : Hid (prmE n f = 0) := Lib.hid (by unfold prmE; rw [hp]; rfl)
  have HP := Lib.hid hp
  obtain ⟨h1, h64, _⟩ := permB_yes hp
  have h64' : (n : Int) ≤ 64 := by omega
  obtain ⟨v, hv⟩ : ∃ v, inv n f = v := ⟨_, rfl⟩
  have HV := Lib.hid hv
  rw [if_pos rfl, hv]
  clear hp hv
  go_enter Try.func8, Try.ntmps8
  go_wp2_with fail
  refine (rValidPerm_any n cap ao f _ hn HC.out).mono ?_
  rintro e w1 ⟨rfl, hb⟩
  rw [HP.out]
  have D1 := Lib.hid hb
  clear hb
  go_wp2_with fail
  go_loopw [4, 5, 6] (fun cv kv _ wr => ∃ k c : Nat, kv = .int .i64 k ∧ k ≤ n ∧ cv = .int .i64 c ∧ Hid (invK f k = c) ∧ Below w.heap.size w wr) (fun _ kv _ _ => n - (intOf kv).toNat)
  case atStart => exact ⟨0, 0, rfl, Nat.zero_le _, rfl, Lib.hid rfl, D1.out⟩
  case round =>
    obtain ⟨k, c, rfl, hk, rfl, HK, hbel⟩ := hrel
    by_cases hlt : k < n
    · have hlt' : (k : Int) < (n : Int) := by omega
      obtain ⟨wo, rfl⟩ : ∃ wo : World, wo = wr := ⟨_, rfl⟩
      obtain ⟨b, o, rfl, hcell⟩ := (Ints.keep HC.out hbel) (by omega)
      obtain ⟨y, hy⟩ : ∃ y, f k = y := ⟨_, rfl⟩
      have HY := Lib.hid hy
      have HCE := Lib.hid hcell
      have hcb : Hid (c ≤ 4096) := Lib.hid (by
        have := invK_le f (n := 64) (k := k) (by omega)
        rw [HK.out] at this
        have h2 := Nat.mul_le_mul (show k ≤ 64 by omega) (Nat.le_refl 64)
        omega)
      clear hcell hy
      go_wp2_with fail
      go_loopw [4, 6] (fun cv iv wr => ∃ i d : Nat, iv = .int .i64 i ∧ i ≤ k ∧ cv = .int .i64 d ∧ Hid (c + S i (fun a => if y < f a then 1 else 0) = d) ∧ Below wo.heap.size wo wr) (fun _ iv _ => k - (intOf iv).toNat)
      case atStart => exact ⟨0, c, rfl, Nat.zero_le _, rfl, Lib.hid rfl, Below.refl _ _⟩
      case round =>
        obtain ⟨i, d, rfl, hi, rfl, HD, hbel2⟩ := hrel
        have hdb : (d : Int) ≤ 5000 := by
          have h1 : S i (fun a => if y < f a then 1 else 0) ≤ S i (fun _ => 1) := S_le fun a _ => by split <;> omega
          rw [S_const] at h1
          have := HD.out
          have := hcb.out
          omega
        by_cases hik : i < k
        · have hik' : (i : Int) < (k : Int) := by omega
          have c1 := (hbel2.cell (p := ⟨b, o + k, none⟩) (World.block_lt_of_cell? wo _ (HCE.out k hlt))).trans (HCE.out k hlt)
          have c0 := (hbel2.cell (p := ⟨b, o + i, none⟩) (World.block_lt_of_cell? wo _ (HCE.out i (by omega)))).trans (HCE.out i (by omega))
          obtain ⟨x, hx⟩ : ∃ x, f i = x := ⟨_, rfl⟩
          rw [hx] at c0
          rw [HY.out] at c1
          have HX := Lib.hid hx
          clear hx
          by_cases hxy : y < x
          · have HD2 : Hid (c + S (i + 1) (fun a => if y < f a then 1 else 0) = d + 1) := Lib.hid (by simp only [S]; rw [HX.out, if_pos hxy]; have := HD.out; omega)
            go_wp2_with fail
            go_region
            all_goals
              go_wp2_with fail
              go_roundw
              case rel => exact ⟨i + 1, d + 1, by go_num, by omega, by go_num, HD2, by go_grown⟩
              case measure => simp [intOf]; omega
          · have HD2 : Hid (c + S (i + 1) (fun a => if y < f a then 1 else 0) = d) := Lib.hid (by simp only [S]; rw [HX.out, if_neg hxy]; have := HD.out; omega)
            have hxy' : x ≤ y := by omega
            clear hxy
            go_wp2_with fail
            go_region
            all_goals
              go_wp2_with fail
              go_roundw
              case rel => exact ⟨i + 1, d, by go_num, by omega, rfl, HD2, by go_grown⟩
              case measure => simp [intOf]; omega
        · obtain rfl : i = k := by omega
          have HK2 : Hid (invK f (i + 1) = d) := Lib.hid (by
            have h1 := HK.out
            have h2 := HD.out
            unfold invK at h1 ⊢
            simp only [S]
            rw [h1, HY.out, h2])
          have hb3 : Below w.heap.size w wr := hbel.trans (hbel2.mono hbel.size)
          clear hbel hbel2
          go_wp2_with fail
          go_roundw
          case rel => exact ⟨i + 1, d, by go_num, by omega, rfl, HK2, hb3⟩
          case measure => simp [intOf]; omega
    · obtain rfl : k = n := by omega
      have HVC : Hid (v = c) := Lib.hid (by rw [← HV.out, inv_invK, HK.out])
      go_wp2_with fail
      go_returns
      exact ⟨by rw [HE.out, HVC.out] <;> rfl, hbel⟩

set_option maxRecDepth 100000 in
set_option maxHeartbeats 4000000 in
theorem rCycles_any (n cap : Nat) (ao : Option Addr) (f : Nat → Int) (w : World) (hn : n ≤ 9223372036854775807) (hc : Ints w ao n f) :
    Calls Try.prog 12 #[.slice ao n cap] w fun e w' => IntsOr w.heap.size w' e (cyR n (sF f) n).length (lf (cyR n (sF f) n)) (prmE n f) ∧ Below w.heap.size w w' := by
  have HC := Lib.hid hc
  clear hc
  cases hp : permB n f with
  | false =>
    have HE : Hid (prmE n f = 40) := Lib.hid (by unfold prmE; rw [hp]; rfl)
    have HP := Lib.hid hp
    clear hp
    go_enter Try.func12, Try.ntmps12
    go_wp2_with fail
    refine (rValidPerm_any n cap ao f _ hn HC.out).mono ?_
    rintro e w1 ⟨rfl, hb⟩
    rw [HP.out]
    have D1 := Lib.hid hb
    clear hb
    go_wp2_with fail
    go_returns
    exact ⟨.inr ⟨by rw [HE.out]; decide, by rw [HE.out] <;> rfl⟩, D1.out⟩
  | true =>
  have HE : Hid (prmE n f = 0) := Lib.hid (by unfold prmE; rw [hp]; rfl)
  have HP := Lib.hid hp
  obtain ⟨h1, h64, hrg⟩ := permB_yes hp
  have hbij : Bij n (sF f) := perm_bij hp
  have HBJ := Lib.hid hbij
  have h64' : (n : Int) ≤ 64 := by omega
  obtain ⟨s, hs⟩ : ∃ s, sF f = s := ⟨_, rfl⟩
  have HSF : Hid (∀ k, k < n → f k = (s k : Int)) := Lib.hid fun k hk => by rw [← hs]; unfold sF; have := (hrg k hk).1; omega
  rw [hs] at HBJ
  rw [hs]
  obtain ⟨i0, hi, hz0, hz1, hz2⟩ := info_parts infoInt
  have HI := Lib.hid (And.intro hi (And.intro hz0 (And.intro hz1 hz2)))
  obtain ⟨b, o, rfl, hcw⟩ := HC.out h1
  have hbl : b < w.heap.size := World.block_lt_of_cell? w _ (hcw 0 (by omega))
  have HCW : Hid (∀ wr, Below w.heap.size w wr → ∀ x, x < n → wr.cell? ⟨b, o + x, none⟩ = some (.int .i64 (s x : Int))) := Lib.hid fun wr hb x hx => by
    rw [← HSF.out x hx]; exact (hb.cell (p := ⟨b, o + x, none⟩) hbl).trans (hcw x hx)
  clear hi hz0 hz1 hz2 hp hrg hbij hs hcw
  go_enter Try.func12, Try.ntmps12
  go_wp2_with fail
  refine (rValidPerm_any n cap (some ⟨b, o, none⟩) f _ hn HC.out).mono ?_
  rintro e w1 ⟨rfl, hb⟩
  rw [HP.out]
  have D1 := Lib.hid hb
  clear hb
  go_wp2_with fail
  go_loopw [4, 5, 6, 7, 8, 9] (fun ov lv _ _ _ _ wr => ∃ l : Nat, lv = .int .i64 ((l : Int) + 1) ∧ l ≤ n ∧ Hid (wr.ownsRow w.heap.size 3 1 ov (cyR n s l).length ((cyR n s l).map (Value.int .i64))) ∧ Below w.heap.size w wr) (fun _ lv _ _ _ _ _ => n + 1 - (intOf lv).toNat)
  case atStart => exact ⟨0, rfl, Nat.zero_le _, Lib.hid (World.ownsRow_nil _ _ _ _), D1.out⟩
  case round =>
    obtain ⟨l, rfl, hl, HO, hbel⟩ := hrel
    by_cases hln : l < n
    · have hln' : (l : Int) + 1 ≤ (n : Int) := by omega
      have HO0 : Hid (wr.ownsRow w.heap.size 3 1 u4 (cyO n s l 0).length ((cyO n s l 0).map (Value.int .i64))) := Lib.hid (by rw [cyO_zero]; exact HO.out)
      clear HO
      obtain ⟨wo, rfl⟩ : ∃ wo : World, wo = wr := ⟨_, rfl⟩
      go_wp2_with fail
      go_loopw [4, 6, 7, 8, 9] (fun ov kv _ _ _ wr => ∃ k : Nat, kv = .int .i64 k ∧ k ≤ n ∧ Hid (wr.ownsRow w.heap.size 3 1 ov (cyO n s l k).length ((cyO n s l k).map (Value.int .i64))) ∧ Below w.heap.size w wr) (fun _ kv _ _ _ _ => n - (intOf kv).toNat)
      case atStart => exact ⟨0, rfl, Nat.zero_le _, HO0, hbel⟩
      case round =>
        obtain ⟨k, rfl, hk, HOK, hbk⟩ := hrel
        clear HO0 hbel
        by_cases hkn : k < n
        · have hkn' : (k : Int) < (n : Int) := by omega
          have c0 := HCW.out _ hbk k hkn
          obtain ⟨c, hcl⟩ : ∃ c, clen n s k = c := ⟨_, rfl⟩
          have hcs := HBJ.out.clen hkn
          rw [hcl] at hcs
          have HCS := Lib.hid hcs
          have HCL := Lib.hid hcl
          have hc64 : (c : Int) ≤ 64 := by omega
          have hsk : s k < n := HBJ.out.1 k hkn
          obtain ⟨x0, hx0⟩ : ∃ x0, s k = x0 := ⟨_, rfl⟩
          have HX0 := Lib.hid hx0
          rw [hx0] at c0
          obtain ⟨wp, rfl⟩ : ∃ wp : World, wp = wr := ⟨_, rfl⟩
          clear hcs hcl hsk hx0
          go_wp2_with fail
          go_loopw [7, 8, 9] (fun nv lv av wr => ∃ (t x : Nat) (bb : Bool), nv = .int .i64 ((t : Int) + 1) ∧ t + 1 ≤ c ∧ av = .int .i64 x ∧ Hid (it s (t + 1) k = x) ∧ lv = .bool bb ∧ Hid (gtTo s k t = bb) ∧ Below w.heap.size w wr ∧ Hid (wr.ownsRow w.heap.size 3 1 u4 (cyO n s l k).length ((cyO n s l k).map (Value.int .i64)))) (fun nv _ _ _ => c - (intOf nv).toNat)
          case atStart => exact ⟨0, x0, true, rfl, HCS.out.1, rfl, Lib.hid (by show s k = x0; exact HX0.out), rfl, Lib.hid rfl, hbk, HOK⟩
          case round =>
            obtain ⟨t, x, bb, rfl, htc, rfl, HX, rfl, HB, hbt, HOT⟩ := hrel
            clear HOK hbk
            have hxn : x < n := by have := HBJ.out.it_lt hkn (t + 1); rw [HX.out] at this; exact this
            have hxn' : (x : Int) < n := by omega
            have d0 := HCW.out _ hbt x hxn
            have htc' : (t : Int) + 1 ≤ 64 := by omega
            by_cases hxk : x = k
            · subst hxk
              have hq : ((x : Int) != (x : Int)) = false := by simp
              have htce : t + 1 = c := by
                by_cases e : t + 1 = c
                · exact e
                · exact absurd HX.out (HCS.out.2.2.2 (t + 1) (by omega) (by omega))
              subst htce
              have HLS : Hid (lst n s x = bb) := Lib.hid (by unfold lst; rw [HCL.out, Nat.add_sub_cancel, HB.out])
              cases bb with
              | false =>
                have HN : Hid (cyO n s l (x + 1) = cyO n s l x) := Lib.hid (cyO_no (fun h => by rw [HLS.out] at h; cases h.1))
                clear c0 d0
                go_wp2_with fail
                go_roundw
                case rel => exact ⟨x + 1, by go_num, by omega, by rw [HN.out]; exact HOT, hbt⟩
                case measure => simp [intOf]; omega
              | true =>
                by_cases htl : t = l
                · subst htl
                  have hq2 : ((t : Int) + 1 == (t : Int) + 1) = true := by simp
                  have HY : Hid (cyO n s t (x + 1) = cyO n s t x ++ [(t : Int) + 1]) := Lib.hid (cyO_yes HLS.out HCL.out)
                  have hlen : (cyO n s t x).length ≤ 4160 := cyO_len (by omega) hk h64
                  obtain ⟨A, hA⟩ : ∃ A, cyO n s t x = A := ⟨_, rfl⟩
                  rw [hA] at HOT HY hlen
                  have hsw := hbt.size
                  clear hA c0 d0
                  go_wp2_with (at_builtin; refine wpList_append_own _ rfl (.tmp 50) (.tmp 52) 22 rfl w.heap.size 3 i0 _ 1 8 Try.underlying22 HI.out.1 HI.out.2.1 HI.out.2.2.1 HI.out.2.2.2 rfl (by decide) _ A.length (A.map (Value.int .i64)) rfl (HOT.out.alloc _) ⟨wr.heap.size, 0, none⟩ 1 1 [.int .i64 ((t : Int) + 1)] rfl rfl ?c1 ?c2 ?c3 ?c4 ?c5 ?_)
                  case c1 => exact fun i u hu => World.news_of_block (cs := #[.int .i64 ((t : Int) + 1)]) (heap_new wr _) i u hu
                  case c2 =>
                    intro u hu
                    simp only [List.mem_cons, List.not_mem_nil, or_false] at hu
                    subst hu; rfl
                  case c3 => unfold maxLen; omega
                  case c4 => omega
                  case c5 => simp; omega
                  intro v' w3 hown' hgrow _
                  have hltk := HOT.out.lt
                  have HB3 : Below w.heap.size w w3 := Below.grown (hbt.alloc hsw _) hgrow (by simp; omega) (fun k hk => (hltk k hk).1)
                  have HO3 : Hid (w3.ownsRow w.heap.size 3 1 v' (cyO n s t (x + 1)).length ((cyO n s t (x + 1)).map (Value.int .i64))) := Lib.hid (by rw [HY.out]; simpa using hown')
                  clear hown' hgrow hltk
                  go_wp2_with fail
                  go_roundw
                  case rel => exact ⟨x + 1, by go_num, by omega, HO3, HB3⟩
                  case measure => simp [intOf]; omega
                · have hq2 : ((t : Int) + 1 == (l : Int) + 1) = false := beq_eq_false_iff_ne.2 (by omega)
                  have HN : Hid (cyO n s l (x + 1) = cyO n s l x) := Lib.hid (cyO_no (fun h => by have := h.2; rw [HCL.out] at this; omega))
                  clear c0 d0
                  go_wp2_with fail
                  go_roundw
                  case rel => exact ⟨x + 1, by go_num, by omega, by rw [HN.out]; exact HOT, hbt⟩
                  case measure => simp [intOf]; omega
            · have hq : ((x : Int) != (k : Int)) = true := bne_iff_ne.2 (by omega)
              have hq2 : ((x : Int) == (k : Int)) = false := beq_eq_false_iff_ne.2 (by omega)
              have htc2 : t + 1 + 1 ≤ c := by
                by_cases e : t + 1 = c
                · exfalso; have := HCS.out.2.2.1; rw [← e, HX.out] at this; exact hxk this
                · omega
              have HX2 : Hid (it s (t + 1 + 1) k = s x) := Lib.hid (by show s (it s (t + 1) k) = s x; rw [HX.out])
              cases bb with
              | false =>
                have HB2 : Hid (gtTo s k (t + 1) = false) := Lib.hid (by simp only [gtTo]; rw [HB.out]; rfl)
                go_wp2_with fail
                go_roundw
                case rel => exact ⟨t + 1, s x, false, by go_num, htc2, rfl, HX2, rfl, HB2, hbt, HOT⟩
                case measure => simp [intOf]; omega
              | true =>
                by_cases hgt : k < x
                · have hgt' : (k : Int) < (x : Int) := by omega
                  have HB2 : Hid (gtTo s k (t + 1) = true) := Lib.hid (by simp only [gtTo]; rw [HB.out, HX.out, decide_eq_true hgt]; rfl)
                  go_wp2_with fail
                  go_roundw
                  case rel => exact ⟨t + 1, s x, true, by go_num, htc2, rfl, HX2, rfl, HB2, hbt, HOT⟩
                  case measure => simp [intOf]; omega
                · have hgt' : (x : Int) ≤ (k : Int) := by omega
                  have HB2 : Hid (gtTo s k (t + 1) = false) := Lib.hid (by simp only [gtTo]; rw [HB.out, HX.out, decide_eq_false hgt]; rfl)
                  go_wp2_with fail
                  go_roundw
                  case rel => exact ⟨t + 1, s x, false, by go_num, htc2, rfl, HX2, rfl, HB2, hbt, HOT⟩
                  case measure => simp [intOf]; omega
        · obtain rfl : k = n := by omega
          go_wp2_with fail
          go_roundw
          case rel => exact ⟨l + 1, by go_num, by omega, by rw [← cyO_end]; exact HOK, hbk⟩
          case measure => simp [intOf]; omega
    · obtain rfl : l = n := by omega
      have hge : ¬ ((l : Int) + 1 ≤ (l : Int)) := by omega
      have hpos : 0 < (cyR l s l).length := by rw [← HBJ.out.perm.length_eq]; exact HBJ.out.cyP_pos h1
      obtain ⟨g, gcap, rfl, hgB, hgs, _, _⟩ := own_form HO.out hpos
      have HGI := Lib.hid (lf_own HO.out)
      go_wp2_with fail
      go_returns
      exact ⟨.inl ⟨HE.out, g, gcap, rfl, HGI.out, hgB, hgs⟩, hbel⟩
end Go.Proofs.Ytpjfpkhcadombaa
