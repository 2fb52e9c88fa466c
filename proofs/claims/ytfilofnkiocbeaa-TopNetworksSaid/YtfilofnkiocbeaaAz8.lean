import Derived.Test.YtfilofnkiocbeaaAy8
import Derived.Test.YtfilofnkiocbeaaWz8
import Derived.Test.YtfilofnkiocbeaaBt8
namespace Go.Proofs.Ytfilofnkiocbeaa
open Go.RowKit Ben Prm
theorem aroQ_any : ∀ k, k ≤ 3 → AroQ k
  | 0, _ => aroQ_zero
  | k + 1, h => aroQ_succ k (by omega) (aroQ_any k (by omega))
/-- The error of Around. -/
def arE (n m : Nat) (f g : Nat → Int) : Int :=
  if isPm n f = true then (if (stB g m && decide (m = cn (lv (n : Int)))) = true then (if 0 < wN (lv (n : Int)) (fun j => (f j).toNat) g then 0 else 5) else 80) else 40
/-- What Around gives. -/
def ArnR (n m : Nat) (f g : Nat → Int) (w' : World) (e : Ending) : Prop := ∃ (ao : Option Addr) (l cap : Nat), e = .returned (.tuple #[.slice ao l cap, .int .i64 (arE n m f g)]) ∧ (arE n m f g ≠ 0 → l = 0) ∧
  (arE n m f g = 0 → ∃ (b : Nat) (s : Nat → Bool), ao = some ⟨b, 0, none⟩ ∧ m = l ∧ m ≤ cap ∧ cap ≤ 9223372036854775807 ∧ Bl w' b 0 m s ∧ (∀ x, x < n → out s (lv (n : Int)) 0 x = (f x).toNat) ∧ agB s g m = true)
theorem arnR_no {n m : Nat} {f g : Nat → Int} {w' : World} {x : Int} (h : arE n m f g = x) (hx : x ≠ 0) : ArnR n m f g w' (.returned (.tuple #[.slice none 0 0, .int .i64 x])) := ⟨none, 0, 0, by rw [h], fun _ => rfl, fun e => absurd (h.symm.trans e) hx⟩
set_option maxRecDepth 100000 in
set_option maxHeartbeats 4000000 in
theorem pAround_any (n cap m dap : Nat) (ao bo : Option Addr) (f g : Nat → Int) (w : World) (hn : n ≤ 9223372036854775807) (hm : m ≤ 80) (hd1 : m ≤ dap) (hd2 : dap ≤ 9223372036854775807) (hc : Ints w ao n f) (hd : Ints w bo m g) :
    Calls Try.prog 31 #[.slice ao n cap, .slice bo m dap] w fun e w' => ArnR n m f g w' e ∧ Below w.heap.size w w' := by
  have HC := Lib.hid hc
  have HD := Lib.hid hd
  clear hc hd
  cases h1 : Prm.isPm n f
  · have HE : Hid (arE n m f g = 40) := Lib.hid (by unfold arE; rw [h1]; rfl)
    have H1 := Lib.hid h1
    clear h1
    go_enter Try.func31, Try.ntmps31
    go_wp2_with fail
    refine (isPerm_any n cap ao f _ hn HC.out).mono ?_
    rw [H1.out]
    rintro e w1 ⟨rfl, hb⟩
    have HB := Lib.hid hb
    clear hb
    go_wp2_with fail
    go_ret2
    exact ⟨arnR_no HE.out (by decide), HB.out⟩
  obtain ⟨k, hk, hnk, hlv, q, P, hfp⟩ := pm_of h1
  have HCS := Lib.hid (csE_pm (m := m) (g := g) h1)
  subst hnk
  have HF := Lib.hid hfp
  have HPM := Lib.hid P
  cases h2 : (stB g m && decide (m = cn (lv ((sz k : Nat) : Int))))
  · have HE : Hid (arE (sz k) m f g = 80) := Lib.hid (by unfold arE; rw [if_pos h1, h2]; rfl)
    have H1 := Lib.hid h1
    have HC8 : Hid (csE ((sz k : Nat) : Int) m g = 80) := Lib.hid (by rw [HCS.out, h2]; rfl)
    clear h1 h2 hlv hfp P HCS
    go_enter Try.func31, Try.ntmps31
    go_wp2_with fail
    refine (isPerm_any (sz k) cap ao f _ hn HC.out).mono ?_
    rw [H1.out]
    rintro e w1 ⟨rfl, hb⟩
    have HB := Lib.hid hb
    have HD1 := Lib.hid (HD.out.keep hb)
    clear hb
    go_wp2_with fail
    refine (checkStuck_any _ m dap bo g _ hm HD1.out).mono ?_
    rw [HC8.out]
    rintro e w' ⟨rfl, rfl⟩
    go_wp2_with fail
    go_ret2
    exact ⟨arnR_no HE.out (by decide), HB.out⟩
  · have HE : Hid (arE (sz k) m f g = if 0 < wN k (fun j => (f j).toNat) g then 0 else 5) := Lib.hid (by unfold arE; rw [if_pos h1, if_pos h2, hlv])
    have HLV := Lib.hid hlv
    have H1 := Lib.hid h1
    have HC8 : Hid (csE ((sz k : Nat) : Int) m g = 0) := Lib.hid (by rw [HCS.out, h2]; rfl)
    rw [hlv] at h2
    have hmk : m = cn k := by
      rw [Bool.and_eq_true] at h2
      exact of_decide_eq_true h2.2
    subst hmk
    have HDD := Lib.hid (And.intro hd1 hd2)
    clear h1 h2 hlv hfp P HCS hd1 hd2
    go_enter Try.func31, Try.ntmps31
    go_wp2_with fail
    refine (isPerm_any (sz k) cap ao f _ hn HC.out).mono ?_
    rw [H1.out]
    rintro e w1 ⟨rfl, hb⟩
    have HB := Lib.hid hb
    have HD1 := Lib.hid (HD.out.keep hb)
    have HC1 := Lib.hid ((HC.out.keep hb).congr HF.out)
    clear hb
    go_wp2_with fail
    refine (checkStuck_any _ (cn k) dap bo g _ hm HD1.out).mono ?_
    rw [HC8.out]
    rintro e w' ⟨rfl, rfl⟩
    go_wp2_with fail
    refine (aroQ_any k hk cap dap ao bo _ q g _ HDD.out.1 HDD.out.2 HPM.out HC1.out HD1.out).mono ?_
    rintro e w2 ⟨⟨a2, l2, c2, ok, rfl, hok, hyes⟩, hb2⟩
    have HB2 := Lib.hid (HB.out.trans (hb2.mono HB.out.size))
    have HOK := Lib.hid hok
    have HY := Lib.hid hyes
    clear hb2 hok hyes
    cases ok with
    | false =>
      have HE5 : Hid (arE (sz k) (cn k) f g = 5) := Lib.hid (by
        rw [HE.out, if_neg (of_decide_eq_false HOK.out.symm)])
      go_wp2_with fail
      go_ret2
      exact ⟨arnR_no HE5.out (by decide), HB2.out⟩
    | true =>
      have HE0 : Hid (arE (sz k) (cn k) f g = 0) := Lib.hid (by
        rw [HE.out, if_pos (of_decide_eq_true HOK.out.symm)])
      have HR : Hid (ArnR (sz k) (cn k) f g w2 (.returned (.tuple #[.slice a2 l2 c2, .int .i64 0]))) := Lib.hid ⟨a2, l2, c2, by rw [HE0.out], fun h => absurd HE0.out h, fun _ => by
        rw [HLV.out]
        exact HY.out rfl⟩
      clear HY
      go_wp2_with fail
      go_ret2
      exact ⟨HR.out, HB2.out⟩
theorem arE_zero {n m : Nat} {f : Nat → Int} (h : isPm n f = true) (hm : m = cn (lv (n : Int))) : arE n m f (fun _ => 0) = 0 := by
  obtain ⟨k, _, hnk, hlv, q, P, _⟩ := pm_of h
  unfold arE
  have h2 : stB (fun _ => (0 : Int)) m = true := stB_iff.2 fun _ _ => ⟨Int.le_refl _, by decide⟩
  rw [if_pos h, if_pos (by rw [h2, decide_eq_true hm]; rfl), if_pos]
  rw [hlv]
  rw [hnk] at P
  exact wN_pos k P fun _ _ => rfl
theorem sdV_yes {n m : Nat} {f : Nat → Int} {s : Nat → Bool} (h : isPm n f = true) (hm : m = cn (lv (n : Int))) (ho : ∀ x, x < n → out s (lv (n : Int)) 0 x = (f x).toNat) : sdE n m f = 0 ∧ sdV n m f s = true := by
  have e : sdE n m f = 0 := by
    unfold sdE ckE
    rw [if_pos h, if_pos (isPm_isP h), if_pos hm]
  obtain ⟨_, _, _, _, _, _, hfp⟩ := pm_of h
  refine ⟨e, ?_⟩
  unfold sdV
  rw [if_pos e]
  refine sameTo_all fun j hj => ?_
  unfold ouF
  rw [ho j hj, ← hfp j hj]
set_option maxRecDepth 100000 in
set_option maxHeartbeats 4000000 in
theorem pSettings_no (n cap : Nat) (ao : Option Addr) (f : Nat → Int) (w : World) (hn : n ≤ 9223372036854775807) (hc : Ints w ao n f) (h1 : isPm n f = false) :
    Calls Try.prog 29 #[.slice ao n cap] w fun e w' => e = .returned (.tuple #[.slice none 0 0, .int .i64 40]) ∧ Below w.heap.size w w' := by
  have HC := Lib.hid hc
  have H1 := Lib.hid h1
  clear h1 hc
  go_enter Try.func29, Try.ntmps29
  go_wp2_with fail
  refine (isPerm_any n cap ao f _ hn HC.out).mono ?_
  rw [H1.out]
  rintro e w1 ⟨rfl, hb⟩
  have HB := Lib.hid hb
  clear hb
  go_wp2_with fail
  go_ret2
  exact ⟨rfl, HB.out⟩
/-- What Settings gives. -/
def SetR (n : Nat) (f : Nat → Int) (w' : World) (e : Ending) : Prop := ∃ (b cap' : Nat) (s : Nat → Bool), e = .returned (.tuple #[.slice (some ⟨b, 0, none⟩) (cn (lv (n : Int))) cap', .int .i64 0]) ∧ cn (lv (n : Int)) ≤ cap' ∧ cap' ≤ 9223372036854775807 ∧ Bl w' b 0 (cn (lv (n : Int))) s ∧ ∀ x, x < n → out s (lv (n : Int)) 0 x = (f x).toNat
set_option maxRecDepth 100000 in
set_option maxHeartbeats 4000000 in
theorem pSettings_ok (n cap : Nat) (ao : Option Addr) (f : Nat → Int) (w : World) (hn : n ≤ 9223372036854775807) (hc : Ints w ao n f) (h1 : isPm n f = true) :
    Calls Try.prog 29 #[.slice ao n cap] w fun e w' => SetR n f w' e ∧ Below w.heap.size w w' := by
  have HC := Lib.hid hc
  clear hc
  unfold SetR
  obtain ⟨k, hk, hnk, hlv, q, P, hfp⟩ := pm_of h1
  obtain ⟨c, hcn⟩ : ∃ c, cn k = c := ⟨_, rfl⟩
  have hcb : 1 ≤ c ∧ c ≤ 56 := by
    have : k = 0 ∨ k = 1 ∨ k = 2 ∨ k = 3 := by omega
    rcases this with rfl | rfl | rfl | rfl <;> (simp [cn, sz] at hcn; omega)
  have HA0 := Lib.hid (arE_zero (m := c) h1 (by rw [hlv, hcn]))
  have HCN : Hid (∀ w, Calls Try.prog 48 #[.int .i64 (n : Int)] w fun e w' => e = .returned (.int .i64 (c : Int)) ∧ w = w') := Lib.hid (fun w => by
    have h := count_any k hk w
    rw [hcn, ← hnk] at h
    exact h)
  rw [hlv, hcn]
  have HLV := Lib.hid hlv
  have H1 := Lib.hid h1
  have HN := Lib.hid (And.intro hn hcb)
  obtain ⟨i0, hi, hz0, hz1, hz2⟩ := info_parts infoInt
  have HI := Lib.hid (And.intro hi (And.intro hz0 (And.intro hz1 hz2)))
  clear h1 hlv hnk hk P hfp hcn hn hcb hi hz0 hz1 hz2
  go_enter Try.func29, Try.ntmps29
  go_wp2_with fail
  refine (isPerm_any n cap ao f _ HN.out.1 HC.out).mono ?_
  rw [H1.out]
  rintro e w1 ⟨rfl, hb⟩
  have HB := Lib.hid hb
  clear hb
  go_wp2_with fail
  refine (HCN.out _).mono ?_
  rintro e w' ⟨rfl, rfl⟩
  go_wp2_with (refine wpList_make_full _ rfl (.tmp 10) (.tmp 10) 28 rfl w1.heap.size 3 i0 _ 1 Try.underlying28 HI.out.1 HI.out.2.1 HI.out.2.2.1 .i64 .i64 _ _ c rfl rfl (by simp) (by simp) ?c1 ?c2 ?c3 ?_)
  case c1 => rw [HI.out.2.2.2]; have := HN.out; omega
  case c2 => unfold maxLen; have := HN.out; omega
  case c3 => exact Nat.le_refl _
  intro w2 hown hgrow
  have HW : Hid (Intw w2 w1.heap.size c (fun _ => 0)) := Lib.hid (Intw.of_own hown fun i hi => made_get c i hi)
  have HB2 : Hid (Below w.heap.size w w2) := Lib.hid (HB.out.trans (Below.grown (Below.refl _ _) hgrow HB.out.size (fun k hk => by cases hk)))
  clear hown hgrow HB
  go_wp2_with fail
  refine (pAround_any n cap c c ao (some ⟨w1.heap.size, 0, none⟩) f (fun _ => 0) _ HN.out.1 (by have := HN.out; omega) (Nat.le_refl _) (by have := HN.out; omega) (HC.out.keep HB2.out) HW.out.ints).mono ?_
  rintro e w3 ⟨⟨a3, l3, c3, rfl, _, hyes⟩, hb⟩
  rw [HA0.out]
  obtain ⟨b3, s3, rfl, rfl, hq1, hq2, hBl, hout, _⟩ := hyes HA0.out
  rw [HLV.out] at hout
  have HR := Lib.hid (And.intro hq1 (And.intro hq2 (And.intro hBl hout)))
  have HB3 : Hid (Below w.heap.size w w3) := Lib.hid (HB2.out.trans (hb.mono HB2.out.size))
  clear hyes hq1 hq2 hBl hout hb
  go_wp2_with fail
  go_ret2
  exact ⟨⟨b3, c3, s3, rfl, HR.out⟩, HB3.out⟩
end Go.Proofs.Ytfilofnkiocbeaa
