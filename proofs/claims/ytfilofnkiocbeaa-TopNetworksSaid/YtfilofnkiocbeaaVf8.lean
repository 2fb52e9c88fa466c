import Derived.Test.YtfilofnkiocbeaaVe8
import Derived.Test.YtfilofnkiocbeaaBr8
namespace Ben
theorem pm_surj {n : Nat} {p : Nat → Nat} (hp : ∀ j, j < n → p j < n) (hi : ∀ i j, i < j → j < n → p i ≠ p j) {y : Nat} (hy : y < n) : ∃ j, j < n ∧ p j = y := by
  apply Classical.byContradiction
  intro hno
  have h1 : n + 1 ≤ n := pig (f := fun j => if j < n then p j else y) (fun j hj => by
    by_cases e : j < n
    · simp only [e, if_true]; exact hp j e
    · simp only [e, if_false]; exact hy) (fun i j hij hj => by
    by_cases e : j < n
    · simp only [e, show i < n by omega, if_true]; exact hi i j hij e
    · simp only [e, show i < n by omega, if_true, if_false]; exact fun h => hno ⟨i, by omega, h⟩)
  omega
/-- A list that is a permutation, with its inverse. -/
theorem pm_of {n : Nat} {f : Nat → Int} (h : Prm.isPm n f = true) : ∃ k, k ≤ 3 ∧ n = sz k ∧ lv (n : Int) = k ∧ ∃ q, Pm n (fun j => (f j).toNat) q ∧ ∀ j, j < n → f j = (((f j).toNat : Nat) : Int) := by
  unfold Prm.isPm at h
  rw [Bool.and_eq_true] at h
  obtain ⟨h1, h2⟩ := isP_sz h.1
  have h3 := Prm.okUp_iff.1 h.2
  have hp : ∀ j, j < n → (f j).toNat < n := fun j hj => by have := h3 j hj; omega
  have hi : ∀ i j, i < j → j < n → (f i).toNat ≠ (f j).toNat := fun i j hij hj e => by
    have a := h3 i (by omega)
    have b := h3 j hj
    exact b.2.2 i hij (by omega)
  have hq : ∀ y, ∃ x, y < n → x < n ∧ (f x).toNat = y := fun y => by
    by_cases hy : y < n
    · obtain ⟨x, hx⟩ := pm_surj (p := fun j => (f j).toNat) hp hi hy
      exact ⟨x, fun _ => hx⟩
    · exact ⟨0, fun h => absurd h hy⟩
  obtain ⟨q, hq⟩ := Classical.axiomOfChoice hq
  refine ⟨lv n, h2, by omega, rfl, q, ⟨hp, fun y hy => (hq y hy).1, fun x hx => ?_, fun y hy => (hq y hy).2⟩, fun j hj => by have := h3 j hj; omega⟩
  obtain ⟨a, b⟩ := hq _ (hp x hx)
  apply Classical.byContradiction
  intro hne
  by_cases hlt : q ((f x).toNat) < x
  · exact hi _ _ hlt hx b
  · exact hi x _ (by omega) a b.symm
/-- The ways of a permutation with stuck switches, or the error. -/
def wyV (n m : Nat) (f g : Nat → Int) : Int × Int :=
  if Prm.isPm n f = true then (if (stB g m && decide (m = cn (lv (n : Int)))) = true then (((wN (lv (n : Int)) (fun j => (f j).toNat) g : Nat) : Int), 0) else (0, 80)) else (0, 40)
theorem wyV_perm {n m : Nat} {f g : Nat → Int} (h : Prm.isPm n f = false) : wyV n m f g = (0, 40) := by unfold wyV; rw [h]; rfl
theorem wyV_no {n m : Nat} {f g : Nat → Int} (h : Prm.isPm n f = true) (k : (stB g m && decide (m = cn (lv (n : Int)))) = false) : wyV n m f g = (0, 80) := by unfold wyV; rw [if_pos h, k]; rfl
theorem wyV_ok {n m : Nat} {f g : Nat → Int} (h : Prm.isPm n f = true) (k : (stB g m && decide (m = cn (lv (n : Int)))) = true) : wyV n m f g = (((wN (lv (n : Int)) (fun j => (f j).toNat) g : Nat) : Int), 0) := by unfold wyV; rw [if_pos h, if_pos k]
end Ben
namespace Go.Proofs.Ytfilofnkiocbeaa
open Go.RowKit Ben
set_option maxRecDepth 100000 in
set_option maxHeartbeats 4000000 in
/-- The reference's Ways. -/
theorem rWays_any (n cap m dap : Nat) (ao bo : Option Addr) (f g : Nat → Int) (w : World) (hn : n ≤ 9223372036854775807) (hm : m ≤ 80) (hc : Ints w ao n f) (hd : Ints w bo m g) :
    Calls Try.prog 32 #[.slice ao n cap, .slice bo m dap] w fun e w' => e = .returned (.tuple #[.int .i64 (wyV n m f g).1, .int .i64 (wyV n m f g).2]) ∧ Below w.heap.size w w' := by
  have HC := Lib.hid hc
  have HD := Lib.hid hd
  clear hc hd
  cases h1 : Prm.isPm n f
  · have HE := Lib.hid (wyV_perm (m := m) (g := g) h1)
    have H1 := Lib.hid h1
    clear h1
    go_enter Try.func32, Try.ntmps32
    go_wp2_with fail
    refine (rIsPerm_any n cap ao f _ hn HC.out).mono ?_
    rw [H1.out]
    rintro e w1 ⟨rfl, hb⟩
    have HB := Lib.hid hb
    clear hb
    go_wp2_with fail
    go_ret2
    exact ⟨by rw [HE.out] <;> rfl, HB.out⟩
  obtain ⟨k, hk, hnk, hlv, q, P, hfp⟩ := pm_of h1
  subst hnk
  have HF := Lib.hid hfp
  have HPM := Lib.hid P
  cases h2 : (stB g m && decide (m = cn (lv ((sz k : Nat) : Int))))
  · have HE := Lib.hid (wyV_no h1 h2)
    have H1 := Lib.hid h1
    rw [hlv] at h2
    have H2 := Lib.hid h2
    clear h1 h2 hlv hfp P
    go_enter Try.func32, Try.ntmps32
    go_wp2_with fail
    refine (rIsPerm_any (sz k) cap ao f _ hn HC.out).mono ?_
    rw [H1.out]
    rintro e w1 ⟨rfl, hb⟩
    have HB := Lib.hid hb
    have HD1 := Lib.hid (HD.out.keep hb)
    clear hb
    go_wp2_with fail
    refine (isStuck_any k hk m dap bo g _ hm HD1.out).mono ?_
    rw [H2.out]
    rintro e w' ⟨rfl, rfl⟩
    go_wp2_with fail
    go_ret2
    exact ⟨by rw [HE.out] <;> rfl, HB.out⟩
  · have HE := Lib.hid (wyV_ok h1 h2)
    rw [hlv] at HE
    have H1 := Lib.hid h1
    rw [hlv] at h2
    have hmk : m = cn k := by
      rw [Bool.and_eq_true] at h2
      exact of_decide_eq_true h2.2
    have H2 := Lib.hid h2
    have HMK := Lib.hid hmk
    clear hmk
    clear h1 h2 hlv hfp P
    go_enter Try.func32, Try.ntmps32
    go_wp2_with fail
    refine (rIsPerm_any (sz k) cap ao f _ hn HC.out).mono ?_
    rw [H1.out]
    rintro e w1 ⟨rfl, hb⟩
    have HB := Lib.hid hb
    have HD1 := Lib.hid (HD.out.keep hb)
    have HC1 := Lib.hid ((HC.out.keep hb).congr HF.out)
    clear hb
    go_wp2_with fail
    refine (isStuck_any k hk m dap bo g _ hm HD1.out).mono ?_
    rw [H2.out]
    rintro e w' ⟨rfl, rfl⟩
    go_wp2_with fail
    refine (waysR_any k hk cap m dap 0 ao bo _ q g _ hm (by have h9 := HMK.out; omega) HPM.out HC1.out HD1.out).mono ?_
    rintro e w2 ⟨rfl, hb2⟩
    have HB2 := Lib.hid (HB.out.trans (hb2.mono HB.out.size))
    clear hb2
    go_wp2_with fail
    go_ret2
    exact ⟨by rw [HE.out] <;> first | rfl | (simp only [Nat.zero_add]; rfl), HB2.out⟩
end Go.Proofs.Ytfilofnkiocbeaa
