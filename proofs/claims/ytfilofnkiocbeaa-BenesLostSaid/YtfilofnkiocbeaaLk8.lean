import Derived.Test.YtfilofnkiocbeaaPf8
import Derived.Test.YtfilofnkiocbeaaLu8
namespace Go.Proofs.Ytfilofnkiocbeaa
open Go.RowKit Ben Prm
theorem rPerms_any : ∀ n : Nat, n ≤ 4 → ∀ w, Calls Try.prog 46 #[.int .i64 (n : Int)] w fun e w' => PmsR w.heap.size n w' e ∧ Below w.heap.size w w'
  | 0, _ => rPerms_zero
  | 1, _ => rPerms_one 1 rfl rPerms_zero
  | 2, _ => rPerms_succ 1 2 (by omega) rfl (rPerms_any 1 (by omega))
  | 3, _ => rPerms_succ 2 3 (by omega) rfl (rPerms_any 2 (by omega))
  | 4, _ => rPerms_succ 3 4 (by omega) rfl (rPerms_any 3 (by omega))
  | n + 5, h => absurd h (by omega)
theorem prF_isPm (k : Nat) (hk : k ≤ 1) : ∀ t, t < fc (sz k) → Prm.isPm (sz k) (prF (sz k) t) = true := by
  have : k = 0 ∨ k = 1 := by omega
  rcases this with rfl | rfl <;> decide +kernel
theorem pm_q {n : Nat} {f : Nat → Int} (h : Prm.isPm n f = true) : ∃ q, Pm n (fun j => (f j).toNat) q ∧ ∀ j, j < n → f j = (((f j).toNat : Nat) : Int) := by
  obtain ⟨_, _, _, _, q, P, hf⟩ := pm_of h
  exact ⟨q, P, hf⟩
/-- How many of the first t permutations no settings make. -/
def lsT (k : Nat) (g : Nat → Int) : Nat → Nat
  | 0 => 0
  | t + 1 => lsT k g t + (if wN k (fun j => (prF (sz k) t j).toNat) g = 0 then 1 else 0)
theorem lsT_le (k : Nat) (g : Nat → Int) : ∀ t, lsT k g t ≤ t
  | 0 => Nat.le_refl _
  | t + 1 => by
    have := lsT_le k g t
    simp only [lsT]
    split <;> omega
theorem lsT_yes {k t : Nat} {g : Nat → Int} (h : wN k (fun j => (prF (sz k) t j).toNat) g = 0) : lsT k g (t + 1) = lsT k g t + 1 := by
  show lsT k g t + (if wN k (fun j => (prF (sz k) t j).toNat) g = 0 then 1 else 0) = _
  rw [if_pos h]
theorem lsT_no {k t : Nat} {g : Nat → Int} (h : ¬ wN k (fun j => (prF (sz k) t j).toNat) g = 0) : lsT k g (t + 1) = lsT k g t := by
  show lsT k g t + (if wN k (fun j => (prF (sz k) t j).toNat) g = 0 then 1 else 0) = _
  rw [if_neg h]
  rfl
def lsV (n : Int) (m : Nat) (g : Nat → Int) : Int × Int := if csE n m g = 0 then (if 4 < n then (0, 4) else (((lsT (lv n) g (fc (sz (lv n))) : Nat) : Int), 0)) else (0, csE n m g)
theorem lv_sz : ∀ k, k ≤ 3 → lv ((sz k : Nat) : Int) = k := by decide
theorem isP_ofsz : ∀ k, k ≤ 3 → isP ((sz k : Nat) : Int) = true := by decide
theorem csE_zero {n : Int} {m : Nat} {g : Nat → Int} (h : csE n m g = 0) : ∃ k, k ≤ 3 ∧ n = ((sz k : Nat) : Int) ∧ m = cn k ∧ stB g m = true := by
  unfold csE at h
  by_cases e : ckE n m = 0
  · obtain ⟨a, b, c⟩ := ckE_ok e
    rw [if_pos e] at h
    refine ⟨lv n, b, a, c, ?_⟩
    cases hs : stB g m
    · rw [hs] at h; cases h
    · rfl
  · rw [if_neg e] at h
    exact absurd h e
theorem csE_sz (k m : Nat) (g : Nat → Int) (hk : k ≤ 3) : csE ((sz k : Nat) : Int) m g = if (stB g m && decide (m = cn k)) = true then 0 else 80 := by
  unfold csE ckE
  rw [if_pos (isP_ofsz k hk), lv_sz k hk]
  by_cases e : m = cn k
  · rw [if_pos e, if_pos rfl, decide_eq_true e, Bool.and_true]
  · rw [if_neg e, if_neg (by decide), decide_eq_false e, Bool.and_false]
    rfl
theorem csE_notP {n : Int} {m : Nat} {g : Nat → Int} (h : isP n = false) : csE n m g = 2 := by
  unfold csE ckE
  rw [h]
  rfl
theorem lsV_sz (k m : Nat) (g : Nat → Int) (hk : k ≤ 1) (h : csE ((sz k : Nat) : Int) m g = 0) : lsV ((sz k : Nat) : Int) m g = (((lsT k g (fc (sz k)) : Nat) : Int), 0) := by
  have : k = 0 ∨ k = 1 := by omega
  unfold lsV
  rw [if_pos h, lv_sz k (by omega)]
  rcases this with rfl | rfl <;> rfl
theorem lsV_big {n : Int} {m : Nat} {g : Nat → Int} (h : csE n m g = 0) (h4 : 4 < n) : lsV n m g = (0, 4) := by
  unfold lsV
  rw [if_pos h, if_pos h4]
theorem lsV_err {n : Int} {m : Nat} {g : Nat → Int} (h : ¬ csE n m g = 0) : lsV n m g = (0, csE n m g) := by
  unfold lsV
  rw [if_neg h]
set_option maxRecDepth 100000 in
set_option maxHeartbeats 8000000 in
theorem pLost_any (n : Int) (m dap : Nat) (bo : Option Addr) (g : Nat → Int) (w : World) (hm : m ≤ 80) (hd1 : m ≤ dap) (hd2 : dap ≤ 9223372036854775807) (hd : Ints w bo m g) :
    Calls Try.prog 35 #[.int .i64 n, .slice bo m dap] w fun e w' => e = .returned (.tuple #[.int .i64 (lsV n m g).1, .int .i64 (lsV n m g).2]) ∧ Below w.heap.size w w' := by
  have HD := Lib.hid hd
  clear hd
  by_cases hz : ¬ csE n m g = 0
  · have HE := Lib.hid (lsV_err hz)
    obtain ⟨z, hzz⟩ : ∃ z, csE n m g = z := ⟨_, rfl⟩
    rw [hzz] at hz HE
    have HZ := Lib.hid hzz
    clear hzz
    go_enter Try.func35, Try.ntmps35
    go_wp2_with fail
    refine (checkStuck_any n m dap bo g _ hm HD.out).mono ?_
    rw [HZ.out]
    rintro e w' ⟨rfl, rfl⟩
    go_wp2_with fail
    go_ret2
    exact ⟨by rw [HE.out] <;> rfl, Below.refl _ _⟩
  have hz := Decidable.not_not.1 hz
  have HZ := Lib.hid hz
  by_cases h4 : 4 < n
  · have HE := Lib.hid (lsV_big hz h4)
    clear hz
    go_enter Try.func35, Try.ntmps35
    go_wp2_with fail
    refine (checkStuck_any n m dap bo g _ hm HD.out).mono ?_
    rw [HZ.out]
    rintro e w' ⟨rfl, rfl⟩
    go_wp2_with fail
    go_ret2
    exact ⟨by rw [HE.out] <;> rfl, Below.refl _ _⟩
  obtain ⟨k, hk3, rfl, rfl, hst⟩ := csE_zero hz
  have hk1 : k ≤ 1 := by
    have : k = 0 ∨ k = 1 ∨ k = 2 ∨ k = 3 := by omega
    rcases this with rfl | rfl | rfl | rfl
    · omega
    · omega
    · exact absurd (by decide) h4
    · exact absurd (by decide) h4
  have HE := Lib.hid (lsV_sz k (cn k) g hk1 hz)
  have HK := Lib.hid hk1
  have HDD := Lib.hid (And.intro hd1 (And.intro hd2 hm))
  have hs4 : sz k ≤ 4 := by omega
  have HS4 := Lib.hid hs4
  clear hz hst hk3 hd1 hd2 hm hs4
  go_enter Try.func35, Try.ntmps35
  go_wp2_with fail
  refine (checkStuck_any _ (cn k) dap bo g _ HDD.out.2.2 HD.out).mono ?_
  rw [HZ.out]
  rintro e w' ⟨rfl, rfl⟩
  go_wp2_with fail
  refine (permutations_any (sz k) _ HS4.out).mono ?_
  rintro e wo ⟨⟨gl, cl, top, A, C, rfl, hV⟩, hB⟩
  have HV := Lib.hid hV
  have HB := Lib.hid hB
  have HD1 := Lib.hid (HD.out.keep hB)
  obtain ⟨M, hM⟩ : ∃ M, fc (sz k) = M := ⟨_, rfl⟩
  have hM24 : M ≤ 24 := by
    have : k = 0 ∨ k = 1 := by omega
    rw [← hM]
    rcases this with rfl | rfl <;> decide
  have hM1 : 1 ≤ M := by rw [← hM]; exact fc_pos _
  rw [hM] at HV HE
  rw [hM]
  have HMM := Lib.hid (And.intro hM (And.intro hM1 hM24))
  clear hM hV hB
  go_wp2_with fail
  go_loopw [7, 21] (fun lv iv wr => ∃ (c t : Nat), lv = .int .i64 (c : Int) ∧ iv = .int .i64 (t : Int) ∧ t ≤ M ∧ Hid (c = lsT k g t) ∧ Hid (Below w.heap.size w wr) ∧ Hid (Below wo.heap.size wo wr)) (fun _ iv _ => M - (intOf iv).toNat)
  case atStart => exact ⟨0, 0, rfl, rfl, Nat.zero_le _, Lib.hid rfl, HB, Lib.hid (Below.refl _ _)⟩
  case round =>
    obtain ⟨c, t, rfl, rfl, ht, HC, HB1, HB2⟩ := hrel
    by_cases hlt : t < M
    · have hlt' : (t : Int) < (M : Int) := by omega
      have t0 : (0 : Int) ≤ (t : Int) := by omega
      have tt : (t : Int).toNat = t := by omega
      have t24 : (t : Int) < 24 := by omega
      have hct : c ≤ t := by have h1 := HC.out; have h2 := lsT_le k g t; omega
      have c24 : (c : Int) < 24 := by omega
      have HVl := Lib.hid (HV.out.keep HB2.out)
      have c0 : wr.cell? ⟨gl, t, none⟩ = some (.slice (A t) (sz k) (C t)) := (HVl.out.own.cellAt t (by omega)).trans (rowsN_get A _ C hlt)
      have c1 : wr.frozen? ⟨gl, t, none⟩ = false := HVl.out.own.frozenAt _
      obtain ⟨q, P, hf⟩ := pm_q (prF_isPm k HK.out t (by rw [HMM.out.1]; exact hlt))
      have HRI := ((HVl.out.row t hlt).ints).congr hf
      have HD2 := Lib.hid (HD1.out.keep HB2.out)
      have HT := Lib.hid (And.intro ht hlt)
      obtain ⟨v, hv⟩ : ∃ v, wN k (fun j => (prF (sz k) t j).toNat) g = v := ⟨_, rfl⟩
      have HCALL := Lib.hid (waysQ_any k (by omega) (C t) dap (A t) bo _ q g _ HDD.out.1 HDD.out.2.1 P HRI HD2.out)
      rw [hv] at HCALL
      have HVV := Lib.hid hv
      clear hv ht hlt P hf HRI
      by_cases hv0 : v = 0
      · have hv0' : (v : Int) = 0 := by omega
        have HN : Hid (c + 1 = lsT k g (t + 1)) := Lib.hid (by rw [lsT_yes (HVV.out.trans hv0), HC.out])
        have HV0 := Lib.hid hv0
        clear hv0 HVV HC
        go_wp2_with fail
        refine HCALL.out.mono ?_
        rintro e w2 ⟨rfl, hb⟩
        have HB3 := Lib.hid (HB1.out.trans (hb.mono HB1.out.size))
        have HB4 := Lib.hid (HB2.out.trans (hb.mono HB2.out.size))
        clear hb HB1 HB2 HVl HD2 HCALL c0 c1
        go_wp2_with fail
        go_roundw
        case rel => exact ⟨c + 1, t + 1, by first | rfl | go_num, by first | rfl | go_num, by have h8 := HT.out; omega, HN, HB3, HB4⟩
        case measure => have h8 := HT.out; first | (simp [intOf]; done) | (simp [intOf]; omega)
      · have hv0' : ¬ (v : Int) = 0 := by omega
        have HN : Hid (c = lsT k g (t + 1)) := Lib.hid (by rw [lsT_no (by rw [HVV.out]; exact hv0), HC.out])
        clear hv0 HVV HC
        go_wp2_with fail
        refine HCALL.out.mono ?_
        rintro e w2 ⟨rfl, hb⟩
        have HB3 := Lib.hid (HB1.out.trans (hb.mono HB1.out.size))
        have HB4 := Lib.hid (HB2.out.trans (hb.mono HB2.out.size))
        clear hb HB1 HB2 HVl HD2 HCALL c0 c1
        go_wp2_with fail
        go_roundw
        case rel => exact ⟨c, t + 1, rfl, by first | rfl | go_num, by have h8 := HT.out; omega, HN, HB3, HB4⟩
        case measure => have h8 := HT.out; first | (simp [intOf]; done) | (simp [intOf]; omega)
    · have htM : t = M := by omega
      subst htM
      have hnl : ¬ ((t : Int) < (t : Int)) := Int.lt_irrefl _
      have HE2 : Hid (lsV ((sz k : Nat) : Int) (cn k) g = ((c : Int), 0)) := Lib.hid (by rw [HE.out, HC.out])
      clear HC ht hlt HB2 HV HD1
      go_wp2_with fail
      refine bodyPost_ret (v := .tuple #[.int .i64 (c : Int), .int .i64 0]) (by simp [results, Try.results35, go_sem]) rfl ⟨by rw [HE2.out], HB1.out⟩
set_option maxRecDepth 100000 in
set_option maxHeartbeats 8000000 in
theorem rLost_any (n : Int) (m dap : Nat) (bo : Option Addr) (g : Nat → Int) (w : World) (hm : m ≤ 80) (hd1 : m ≤ dap) (hd2 : dap ≤ 9223372036854775807) (hd : Ints w bo m g) :
    Calls Try.prog 36 #[.int .i64 n, .slice bo m dap] w fun e w' => e = .returned (.tuple #[.int .i64 (lsV n m g).1, .int .i64 (lsV n m g).2]) ∧ Below w.heap.size w w' := by
  have HD := Lib.hid hd
  clear hd
  cases hP : isP n
  · have HE := Lib.hid (lsV_err (by rw [csE_notP (m := m) (g := g) hP]; decide))
    rw [csE_notP (m := m) (g := g) hP] at HE
    have HP := Lib.hid hP
    clear hP
    go_enter Try.func36, Try.ntmps36
    go_wp2_with fail
    refine (isSize_any n _).mono ?_
    rw [HP.out]
    rintro e w' ⟨rfl, rfl⟩
    go_wp2_with fail
    go_ret2
    exact ⟨by rw [HE.out] <;> rfl, Below.refl _ _⟩
  obtain ⟨hn, hk3⟩ := isP_sz hP
  obtain ⟨k, hk⟩ : ∃ k, lv n = k := ⟨_, rfl⟩
  rw [hk] at hn hk3
  subst hn
  have HP := Lib.hid hP
  clear hP hk
  cases hs : (stB g m && decide (m = cn k))
  · have hz : csE ((sz k : Nat) : Int) m g = 80 := by rw [csE_sz k m g hk3, hs]; rfl
    have HE := Lib.hid (lsV_err (n := ((sz k : Nat) : Int)) (m := m) (g := g) (by rw [hz]; decide))
    rw [hz] at HE
    have HS := Lib.hid hs
    have HK3 := Lib.hid hk3
    clear hs hz hk3
    go_enter Try.func36, Try.ntmps36
    go_wp2_with fail
    refine (isSize_any _ _).mono ?_
    rw [HP.out]
    rintro e w' ⟨rfl, rfl⟩
    go_wp2_with fail
    refine (isStuck_any k HK3.out m dap bo g _ hm HD.out).mono ?_
    rw [HS.out]
    rintro e w' ⟨rfl, rfl⟩
    go_wp2_with fail
    go_ret2
    exact ⟨by rw [HE.out] <;> rfl, Below.refl _ _⟩
  have hz : csE ((sz k : Nat) : Int) m g = 0 := by rw [csE_sz k m g hk3, hs]; rfl
  have HS := Lib.hid hs
  have HK3 := Lib.hid hk3
  by_cases h4 : 4 < ((sz k : Nat) : Int)
  · have HE := Lib.hid (lsV_big hz h4)
    clear hz hs hk3
    go_enter Try.func36, Try.ntmps36
    go_wp2_with fail
    refine (isSize_any _ _).mono ?_
    rw [HP.out]
    rintro e w' ⟨rfl, rfl⟩
    go_wp2_with fail
    refine (isStuck_any k HK3.out m dap bo g _ hm HD.out).mono ?_
    rw [HS.out]
    rintro e w' ⟨rfl, rfl⟩
    go_wp2_with fail
    go_ret2
    exact ⟨by rw [HE.out] <;> rfl, Below.refl _ _⟩
  have hmk : m = cn k := by
    rw [Bool.and_eq_true] at hs
    exact of_decide_eq_true hs.2
  have HST : Hid (stB g (cn k) = true) := Lib.hid (by
    rw [Bool.and_eq_true] at hs
    rw [← hmk]
    exact hs.1)
  subst hmk
  clear HS
  have hk1 : k ≤ 1 := by
    have : k = 0 ∨ k = 1 ∨ k = 2 ∨ k = 3 := by omega
    rcases this with rfl | rfl | rfl | rfl
    · omega
    · omega
    · exact absurd (by decide) h4
    · exact absurd (by decide) h4
  have HE := Lib.hid (lsV_sz k (cn k) g hk1 hz)
  have HK := Lib.hid hk1
  have HDD := Lib.hid (And.intro hd1 (And.intro hd2 hm))
  have hs4 : sz k ≤ 4 := by omega
  have HS4 := Lib.hid hs4
  clear hz hs hk3 hd1 hd2 hm hs4
  go_enter Try.func36, Try.ntmps36
  go_wp2_with fail
  refine (isSize_any _ _).mono ?_
  rw [HP.out]
  rintro e w' ⟨rfl, rfl⟩
  go_wp2_with fail
  refine (isStuck_any k HK3.out (cn k) dap bo g _ HDD.out.2.2 HD.out).mono ?_
  rw [show (stB g (cn k) && decide (cn k = cn k)) = true by rw [HST.out, decide_eq_true rfl]; rfl]
  rintro e w' ⟨rfl, rfl⟩
  go_wp2_with fail
  refine (rPerms_any (sz k) HS4.out _).mono ?_
  rintro e wo ⟨⟨gl, cl, top, A, C, rfl, hV⟩, hB⟩
  have HV := Lib.hid hV
  have HB := Lib.hid hB
  have HD1 := Lib.hid (HD.out.keep hB)
  obtain ⟨M, hM⟩ : ∃ M, fc (sz k) = M := ⟨_, rfl⟩
  have hM24 : M ≤ 24 := by
    have : k = 0 ∨ k = 1 := by omega
    rw [← hM]
    rcases this with rfl | rfl <;> decide
  have hM1 : 1 ≤ M := by rw [← hM]; exact fc_pos _
  rw [hM] at HV HE
  rw [hM]
  have HMM := Lib.hid (And.intro hM (And.intro hM1 hM24))
  clear hM hV hB
  go_wp2_with fail
  go_loopw [6, 21] (fun lv iv wr => ∃ (c t : Nat), lv = .int .i64 (c : Int) ∧ iv = .int .i64 (t : Int) ∧ t ≤ M ∧ Hid (c = lsT k g t) ∧ Hid (Below w.heap.size w wr) ∧ Hid (Below wo.heap.size wo wr)) (fun _ iv _ => M - (intOf iv).toNat)
  case atStart => exact ⟨0, 0, rfl, rfl, Nat.zero_le _, Lib.hid rfl, HB, Lib.hid (Below.refl _ _)⟩
  case round =>
    obtain ⟨c, t, rfl, rfl, ht, HC, HB1, HB2⟩ := hrel
    by_cases hlt : t < M
    · have hlt' : (t : Int) < (M : Int) := by omega
      have t0 : (0 : Int) ≤ (t : Int) := by omega
      have tt : (t : Int).toNat = t := by omega
      have t24 : (t : Int) < 24 := by omega
      have hct : c ≤ t := by have h1 := HC.out; have h2 := lsT_le k g t; omega
      have c24 : (c : Int) < 24 := by omega
      have HVl := Lib.hid (HV.out.keep HB2.out)
      have c0 : wr.cell? ⟨gl, t, none⟩ = some (.slice (A t) (sz k) (C t)) := (HVl.out.own.cellAt t (by omega)).trans (rowsN_get A _ C hlt)
      have c1 : wr.frozen? ⟨gl, t, none⟩ = false := HVl.out.own.frozenAt _
      obtain ⟨q, P, hf⟩ := pm_q (prF_isPm k HK.out t (by rw [HMM.out.1]; exact hlt))
      have HRI := ((HVl.out.row t hlt).ints).congr hf
      have HD2 := Lib.hid (HD1.out.keep HB2.out)
      have HT := Lib.hid (And.intro ht hlt)
      obtain ⟨v, hv⟩ : ∃ v, wN k (fun j => (prF (sz k) t j).toNat) g = v := ⟨_, rfl⟩
      have HCALL := Lib.hid (waysR_any k (by omega) (C t) (cn k) dap 0 (A t) bo _ q g _ HDD.out.2.2 (by omega) P HRI HD2.out)
      simp only [Nat.zero_add] at HCALL
      rw [hv] at HCALL
      have HVV := Lib.hid hv
      clear hv ht hlt P hf HRI
      by_cases hv0 : v = 0
      · have hv0' : (v : Int) = 0 := by omega
        have HN : Hid (c + 1 = lsT k g (t + 1)) := Lib.hid (by rw [lsT_yes (HVV.out.trans hv0), HC.out])
        have HV0 := Lib.hid hv0
        clear hv0 HVV HC
        go_wp2_with fail
        refine HCALL.out.mono ?_
        rintro e w2 ⟨rfl, hb⟩
        have HB3 := Lib.hid (HB1.out.trans (hb.mono HB1.out.size))
        have HB4 := Lib.hid (HB2.out.trans (hb.mono HB2.out.size))
        clear hb HB1 HB2 HVl HD2 HCALL c0 c1
        go_wp2_with fail
        go_roundw
        case rel => exact ⟨c + 1, t + 1, by first | rfl | go_num, by first | rfl | go_num, by have h8 := HT.out; omega, HN, HB3, HB4⟩
        case measure => have h8 := HT.out; first | (simp [intOf]; done) | (simp [intOf]; omega)
      · have hv0' : ¬ (v : Int) = 0 := by omega
        have HN : Hid (c = lsT k g (t + 1)) := Lib.hid (by rw [lsT_no (by rw [HVV.out]; exact hv0), HC.out])
        clear hv0 HVV HC
        go_wp2_with fail
        refine HCALL.out.mono ?_
        rintro e w2 ⟨rfl, hb⟩
        have HB3 := Lib.hid (HB1.out.trans (hb.mono HB1.out.size))
        have HB4 := Lib.hid (HB2.out.trans (hb.mono HB2.out.size))
        clear hb HB1 HB2 HVl HD2 HCALL c0 c1
        go_wp2_with fail
        go_roundw
        case rel => exact ⟨c, t + 1, rfl, by first | rfl | go_num, by have h8 := HT.out; omega, HN, HB3, HB4⟩
        case measure => have h8 := HT.out; first | (simp [intOf]; done) | (simp [intOf]; omega)
    · have htM : t = M := by omega
      subst htM
      have hnl : ¬ ((t : Int) < (t : Int)) := Int.lt_irrefl _
      have HE2 : Hid (lsV ((sz k : Nat) : Int) (cn k) g = ((c : Int), 0)) := Lib.hid (by rw [HE.out, HC.out])
      clear HC ht hlt HB2 HV HD1
      go_wp2_with fail
      refine bodyPost_ret (v := .tuple #[.int .i64 (c : Int), .int .i64 0]) (by simp [results, Try.results36, go_sem]) rfl ⟨by rw [HE2.out], HB1.out⟩
set_option maxRecDepth 100000 in
set_option maxHeartbeats 8000000 in
theorem BenesLost_any (n : Int) (m dap : Nat) (bo : Option Addr) (g : Nat → Int) (w : World) (hm1 : m ≤ dap) (hm2 : dap ≤ 9223372036854775807) (hd : Ints w bo m g) :
    Calls Try.prog 9 #[.int .i64 n, .slice bo m dap] w fun e w' => e = .returned (.bool true) ∧ Below w.heap.size w w' := by
  have HD := Lib.hid hd
  clear hd
  by_cases h80 : 80 < (m : Int)
  · go_enter Try.func9, Try.ntmps9
    go_wp2_with fail
    refine (sane_any _).mono ?_
    rintro e w1 ⟨rfl, hb⟩
    go_wp2_with fail
    go_returns
    exact ⟨rfl, hb⟩
  have h80' : (m : Int) ≤ 80 := by omega
  obtain ⟨v, e, hve⟩ : ∃ v e, lsV n m g = (v, e) := ⟨_, _, rfl⟩
  have HV := Lib.hid hve
  have HM := Lib.hid (And.intro hm1 hm2)
  clear hve hm1 hm2
  go_enter Try.func9, Try.ntmps9
  go_wp2_with fail
  refine (pLost_any n m dap bo g _ (by omega) HM.out.1 HM.out.2 HD.out).mono ?_
  rw [HV.out]
  rintro e w1 ⟨rfl, hb⟩
  have HB := Lib.hid hb
  have HD1 := Lib.hid (HD.out.keep hb)
  clear hb
  go_wp2_with fail
  refine (rLost_any n m dap bo g _ (by omega) HM.out.1 HM.out.2 HD1.out).mono ?_
  rw [HV.out]
  rintro e w2 ⟨rfl, hb⟩
  have HB2 := Lib.hid (HB.out.trans (hb.mono HB.out.size))
  clear hb
  go_wp2_with fail
  refine (sane_any _).mono ?_
  rintro e wz ⟨rfl, hb⟩
  have DZ := HB2.out.trans (hb.mono HB2.out.size)
  clear hb
  go_wp2_with fail
  go_returns
  exact ⟨rfl, DZ⟩
end Go.Proofs.Ytfilofnkiocbeaa
