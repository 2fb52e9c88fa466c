import Derived.Test.YtfilofnkiocbeaaWy8
namespace Go.Proofs.Ytfilofnkiocbeaa
open Go.RowKit Ben Prm
theorem csE_pm {n m : Nat} {f g : Nat → Int} (h : Prm.isPm n f = true) : csE (n : Int) m g = if (stB g m && decide (m = cn (lv (n : Int)))) = true then 0 else 80 := by
  unfold Prm.isPm at h
  rw [Bool.and_eq_true] at h
  unfold csE ckE
  rw [if_pos h.1]
  by_cases e : m = cn (lv (n : Int))
  · rw [if_pos e, if_pos rfl, decide_eq_true e, Bool.and_true]
  · rw [if_neg e, if_neg (by decide), decide_eq_false e, Bool.and_false]
    rfl
theorem waysQ_any : ∀ k, k ≤ 3 → WaysQ k
  | 0, _ => waysQ_zero
  | k + 1, h => waysQ_succ k (by omega) (waysQ_any k (by omega))
set_option maxRecDepth 100000 in
set_option maxHeartbeats 4000000 in
/-- The program's Ways. -/
theorem pWays_any (n cap m dap : Nat) (ao bo : Option Addr) (f g : Nat → Int) (w : World) (hn : n ≤ 9223372036854775807) (hm : m ≤ 80) (hd1 : m ≤ dap) (hd2 : dap ≤ 9223372036854775807) (hc : Ints w ao n f) (hd : Ints w bo m g) :
    Calls Try.prog 34 #[.slice ao n cap, .slice bo m dap] w fun e w' => e = .returned (.tuple #[.int .i64 (wyV n m f g).1, .int .i64 (wyV n m f g).2]) ∧ Below w.heap.size w w' := by
  have HC := Lib.hid hc
  have HD := Lib.hid hd
  clear hc hd
  cases h1 : Prm.isPm n f
  · have HE := Lib.hid (wyV_perm (m := m) (g := g) h1)
    have H1 := Lib.hid h1
    clear h1
    go_enter Try.func34, Try.ntmps34
    go_wp2_with fail
    refine (isPerm_any n cap ao f _ hn HC.out).mono ?_
    rw [H1.out]
    rintro e w1 ⟨rfl, hb⟩
    have HB := Lib.hid hb
    clear hb
    go_wp2_with fail
    go_ret2
    exact ⟨by rw [HE.out] <;> rfl, HB.out⟩
  obtain ⟨k, hk, hnk, hlv, q, P, hfp⟩ := pm_of h1
  have HCS := Lib.hid (csE_pm (m := m) (g := g) h1)
  subst hnk
  have HF := Lib.hid hfp
  have HPM := Lib.hid P
  cases h2 : (stB g m && decide (m = cn (lv ((sz k : Nat) : Int))))
  · have HE := Lib.hid (wyV_no h1 h2)
    have H1 := Lib.hid h1
    have HC8 : Hid (csE ((sz k : Nat) : Int) m g = 80) := Lib.hid (by rw [HCS.out, h2]; rfl)
    clear h1 h2 hlv hfp P HCS
    go_enter Try.func34, Try.ntmps34
    go_wp2_with fail
    refine (isPerm_any (sz k) cap ao f _ hn HC.out).mono ?_
    rw [H1.out]
    rintro e w1 ⟨rfl, hb⟩
    have HB := Lib.hid hb
    have HD1 := Lib.hid (HD.out.keep hb)
    clear hb
    go_wp2_with fail
    refine (checkStuck_any _ m dap bo g _ hm HD1.out).mono ?_
    rw [HC8.out]
    rintro e w' ⟨rfl, rfl⟩
    go_wp2_with fail
    go_ret2
    exact ⟨by rw [HE.out] <;> rfl, HB.out⟩
  · have HE := Lib.hid (wyV_ok h1 h2)
    rw [hlv] at HE
    have H1 := Lib.hid h1
    have HC8 : Hid (csE ((sz k : Nat) : Int) m g = 0) := Lib.hid (by rw [HCS.out, h2]; rfl)
    rw [hlv] at h2
    have hmk : m = cn k := by
      rw [Bool.and_eq_true] at h2
      exact of_decide_eq_true h2.2
    subst hmk
    have HDD := Lib.hid (And.intro hd1 hd2)
    clear h1 h2 hlv hfp P HCS hd1 hd2
    go_enter Try.func34, Try.ntmps34
    go_wp2_with fail
    refine (isPerm_any (sz k) cap ao f _ hn HC.out).mono ?_
    rw [H1.out]
    rintro e w1 ⟨rfl, hb⟩
    have HB := Lib.hid hb
    have HD1 := Lib.hid (HD.out.keep hb)
    have HC1 := Lib.hid ((HC.out.keep hb).congr HF.out)
    clear hb
    go_wp2_with fail
    refine (checkStuck_any _ (cn k) dap bo g _ hm HD1.out).mono ?_
    rw [HC8.out]
    rintro e w' ⟨rfl, rfl⟩
    go_wp2_with fail
    refine (waysQ_any k hk cap dap ao bo _ q g _ HDD.out.1 HDD.out.2 HPM.out HC1.out HD1.out).mono ?_
    rintro e w2 ⟨rfl, hb2⟩
    have HB2 := Lib.hid (HB.out.trans (hb2.mono HB.out.size))
    clear hb2
    go_wp2_with fail
    go_ret2
    exact ⟨by rw [HE.out] <;> first | rfl | (simp only [Nat.zero_add]; rfl), HB2.out⟩
end Go.Proofs.Ytfilofnkiocbeaa
