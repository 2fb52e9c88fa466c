import Derived.Test.YtfilofnkiocbeaaWb8
namespace Ben
/-- What a setting of the first switches brings. -/
def tmR (k : Nat) (p q : Nat → Nat) (st : Nat → Int) (a : Nat) : Nat := if vaF (sz k) q a = true then wS k p q st (sdF (bt a)) else 0
theorem wN_q {k : Nat} {p q : Nat → Nat} {st : Nat → Int} (P : Pm (2 * sz k) p q) : wN (k + 1) p st = su (tmR k p q st) (2 ^ sz k) := by
  have e : ∀ y, y < 2 * sz k → ivN (sz (k + 1)) p y = q y := fun y hy => ivN_eq P hy
  simp only [wN]
  refine su_congr fun a _ => ?_
  unfold tmR wS
  rw [vaF_congr e a, maS_congr (σ := sdF (bt a)) (σ' := sdF (bt a)) (st := st) (st' := st) e (fun y hy => ivN_lt P hy) (fun _ _ => rfl) (fun _ _ => rfl)]
theorem tmR_no {k : Nat} {p q : Nat → Nat} {st : Nat → Int} {a : Nat} (h : (vaF (sz k) q a && maS (sz k) q st (sdF (bt a))) = false) : tmR k p q st a = 0 := by
  unfold tmR wS
  cases h1 : vaF (sz k) q a
  · rw [if_neg Bool.false_ne_true]
  · rw [h1, Bool.true_and] at h
    rw [if_pos rfl, h, if_neg Bool.false_ne_true]
theorem tmR_yes {k : Nat} {p q : Nat → Nat} {st : Nat → Int} {a : Nat} (h : (vaF (sz k) q a && maS (sz k) q st (sdF (bt a))) = true) : tmR k p q st a =
    wN k (upS p (sdF (bt a))) (fun i => st (sz (k + 1) + i)) * wN k (loS p (sdF (bt a))) (fun i => st (sz (k + 1) + cn k + i)) := by
  rw [Bool.and_eq_true] at h
  unfold tmR wS
  rw [if_pos h.1, if_pos h.2]
theorem su_mono {f : Nat → Nat} {j n : Nat} (h : j ≤ n) : su f j ≤ su f n := by
  induction n with
  | zero => obtain rfl : j = 0 := by omega
            exact Nat.le_refl _
  | succ n ih =>
    by_cases e : j = n + 1
    · rw [e]; exact Nat.le_refl _
    · exact Nat.le_trans (ih (by omega)) (by simp only [su]; omega)
theorem tm_le {k : Nat} {p q : Nat → Nat} {st : Nat → Int} (hk : k ≤ 2) (P : Pm (2 * sz k) p q) {j : Nat} (hj : j ≤ 2 ^ sz k) : su (tmR k p q st) j ≤ 72057594037927936 := by
  refine Nat.le_trans (su_mono hj) ?_
  rw [← wN_q P]
  refine Nat.le_trans (wN_le _ _ _) ?_
  match k, hk with
  | 0, _ => decide
  | 1, _ => decide
  | 2, _ => decide
end Ben
namespace Go.Proofs.Ytfilofnkiocbeaa
open Go.RowKit Ben
/-- What comes back of the reference's halves. -/
def HalR (k : Nat) : Prop := ∀ (cap m dap base a : Nat) (ao bo : Option Addr) (p q : Nat → Nat) (f : Nat → Int) (w : World), m ≤ 80 → base + sz (k + 1) ≤ m → Pm (2 * sz k) p q → a < 2 ^ sz k → Ints w ao (sz (k + 1)) (fun j => ((p j : Nat) : Int)) → Ints w bo m f →
    Calls Try.prog 74 #[.slice ao (sz (k + 1)) cap, .slice bo m dap, .int .i64 (base : Int), .int .i64 (a : Int)] w fun e w' => ∃ U V t, e = .returned (.tuple #[U, V, .bool t]) ∧ Below w.heap.size w w' ∧
      t = (vaF (sz k) q a && maS (sz k) q (fun i => f (base + i)) (sdF (bt a))) ∧ (t = true → ∃ uo vo cu cv, U = .slice uo (sz k) cu ∧ V = .slice vo (sz k) cv ∧ Ints w' uo (sz k) (fun j => ((upS p (sdF (bt a)) j : Nat) : Int)) ∧ Ints w' vo (sz k) (fun j => ((loS p (sdF (bt a)) j : Nat) : Int)))
set_option maxRecDepth 100000 in
set_option maxHeartbeats 600000 in
theorem rways_0 (hH : HalR 0) (hR : WaysR 0) : WaysR 1 := by
  intro cap m dap base ao bo p q f w hm hb P hc hd
  have P2 : Pm (2 * sz 0) p q := P
  have hb1 : base + 6 ≤ m := hb
  have hmm : (m : Int) ≤ 80 := by omega
  have hbm : (base : Int) + 6 ≤ (m : Int) := by omega
  have b0 : (0 : Int) ≤ (base : Int) := by omega
  obtain ⟨T, hT⟩ : ∃ T, tmR 0 p q (fun i => f (base + i)) = T := ⟨_, rfl⟩
  have HW := Lib.hid (show wN 1 p (fun i => f (base + i)) = su T 4 by rw [← hT]; exact wN_q P2)
  have HLe : Hid (∀ j, j ≤ 4 → su T j ≤ 72057594037927936) := Lib.hid (fun j hj => by rw [← hT]; exact tm_le (by decide) P2 hj)
  have HT := Lib.hid hT
  have HP := Lib.hid P2
  have HC := Lib.hid hc
  have HD := Lib.hid hd
  clear hc hd P P2 hT
  show Calls Try.prog 60 #[.slice ao 4 cap, .slice bo m dap, .int .i64 (base : Int)] w _
  go_enter Try.func60, Try.ntmps60
  go_wp2_with fail
  go_loopw [8, 9] (fun sv iv wr => ∃ (S z : Int) (j : Nat), sv = .int .i64 S ∧ iv = .int .i64 z ∧ z = j ∧ j ≤ 4 ∧ Hid (S = ((su T j : Nat) : Int)) ∧ Hid (Below w.heap.size w wr)) (fun _ iv _ => 4 - (intOf iv).toNat)
  case atStart => exact ⟨0, 0, 0, rfl, rfl, rfl, by omega, Lib.hid rfl, Lib.hid (Below.refl _ _)⟩
  case round =>
    obtain ⟨S, z, j, rfl, rfl, hz, hj, HS, HB⟩ := hrel
    have hS0 : 0 ≤ S := by rw [HS.out]; omega
    have hS1 : S ≤ 72057594037927936 := by rw [HS.out]; have := HLe.out j hj; omega
    by_cases hlt : j < 4
    · have hlt' : z < 4 := by omega
      have HN : Hid (su T (j + 1) = su T j + T j) := Lib.hid rfl
      have HL2 : Hid (su T (j + 1) ≤ 72057594037927936) := Lib.hid (HLe.out (j + 1) (by omega))
      subst hz
      have j00 : (0 : Int) ≤ (j : Int) := by omega
      have hcall := hH cap m dap base j ao bo p q f wr hm (by show base + 4 ≤ m; omega) HP.out hlt (HC.out.keep HB.out) (HD.out.keep HB.out)
      go_wp2_with fail
      refine hcall.mono ?_
      clear hcall
      rintro e w1 ⟨U, V, t, rfl, hB1, ht, hres⟩
      have HB1 := Lib.hid (HB.out.trans (hB1.mono HB.out.size))
      clear hB1
      cases t
      · have HT0 : Hid (T j = 0) := Lib.hid (by rw [← HT.out]; exact tmR_no ht.symm)
        clear hres ht
        go_wp2_with fail
        go_roundw
        case rel => exact ⟨S, (j : Int) + 1, j + 1, rfl, by first | rfl | (rw [show wrap64 ((j : Int) + 1) = (j : Int) + 1 by simp only [wrap64]; omega]), by omega, by omega, Lib.hid (by rw [HS.out, HN.out, HT0.out, Nat.add_zero]), HB1⟩
        case measure => first | (simp [intOf]; done) | (simp [intOf]; omega)
      · have HT1 := Lib.hid ((congrFun HT.out.symm j).trans (tmR_yes ht.symm))
        have G : Ben.Good (sz 0) q (sdF (bt j)) := by
          have h1 := ht.symm
          rw [Bool.and_eq_true] at h1
          exact ⟨fun x _ => sdF_pt _ x, of_decide_eq_true h1.1⟩
        obtain ⟨uo, vo, cu, cv, rfl, rfl, hu, hv⟩ := hres rfl
        have PU := upS_pm HP.out G
        have HPV := Lib.hid (loS_pm HP.out G)
        clear hres ht G
        have HV := Lib.hid hv
        clear hv
        have hc1 := hR cu m dap (base + 4) uo bo _ _ f w1 hm (by show base + 4 + 1 ≤ m; omega) PU hu (HD.out.keep HB1.out)
        rw [show ((base + 4 : Nat) : Int) = (base : Int) + 4 from rfl] at hc1
        clear PU hu
        obtain ⟨x, hx⟩ : ∃ x, wN 0 (upS p (sdF (bt j))) (fun i => f (base + 4 + i)) = x := ⟨_, rfl⟩
        rw [hx] at hc1
        have HX : Hid (T j = x * wN 0 (loS p (sdF (bt j))) (fun i => f (base + 4 + 1 + i))) := Lib.hid (by
          rw [HT1.out, ← hx]
          simp only [Nat.add_assoc]
          rfl)
        have hxl : x ≤ 1048576 := by rw [← hx]; exact Nat.le_trans (wN_le _ _ _) (by decide)
        clear hx HT1
        go_wp2_with fail
        refine hc1.mono ?_
        clear hc1
        rintro e w2 ⟨rfl, hB2⟩
        have HB2 := Lib.hid (HB1.out.trans (hB2.mono HB1.out.size))
        have HV2 := Lib.hid (HV.out.keep hB2)
        clear hB2 HV
        by_cases hx0 : 0 < x
        · go_wp2_with fail
          refine Calls.mono (show Calls Try.prog 50 #[.int .i64 2] w2 (fun e w' => e = .returned (.int .i64 1) ∧ w2 = w') from switches_any 0 (by decide) w2) ?_
          rintro e w' ⟨rfl, rfl⟩
          have hc2 := hR cv m dap (base + 4 + 1) vo bo _ _ f w2 hm (by show base + 4 + 1 + 1 ≤ m; omega) HPV.out HV2.out (HD.out.keep HB2.out)
          rw [show ((base + 4 + 1 : Nat) : Int) = (base : Int) + 4 + 1 from rfl] at hc2
          obtain ⟨y, hy⟩ : ∃ y, wN 0 (loS p (sdF (bt j))) (fun i => f (base + 4 + 1 + i)) = y := ⟨_, rfl⟩
          rw [hy] at hc2 HX
          have hyl : y ≤ 1048576 := by rw [← hy]; exact Nat.le_trans (wN_le _ _ _) (by decide)
          clear hy HV2 HPV
          go_wp2_with fail
          refine hc2.mono ?_
          clear hc2
          rintro e w3 ⟨rfl, hB3⟩
          have HB3 := Lib.hid (HB2.out.trans (hB3.mono HB2.out.size))
          clear hB3
          go_wp2_with fail
          go_roundw
          case rel => exact ⟨((su T (j + 1) : Nat) : Int), (j : Int) + 1, j + 1, (by
            have e1 := HX.out
            have e2 := HN.out
            have e3 := HL2.out
            have e4 := HS.out
            obtain ⟨Q, hQ⟩ : ∃ Q, x * y = Q := ⟨_, rfl⟩
            rw [e2, e1, hQ] at e3
            rw [e4, e2, e1, ← Int.natCast_mul, hQ, show wrap64 ((Q : Nat) : Int) = (Q : Int) by simp only [wrap64]; omega,
              show wrap64 (((su T j : Nat) : Int) + (Q : Int)) = ((su T j + Q : Nat) : Int) by simp only [wrap64]; omega]), by first | rfl | (rw [show wrap64 ((j : Int) + 1) = (j : Int) + 1 by simp only [wrap64]; omega]), by omega, by omega, Lib.hid rfl, HB3⟩
          case measure => first | (simp [intOf]; done) | (simp [intOf]; omega)
        · have HT0 : Hid (T j = 0) := Lib.hid (by rw [HX.out, show x = 0 by omega, Nat.zero_mul])
          clear HV2 HPV
          go_wp2_with fail
          go_roundw
          case rel => exact ⟨S, (j : Int) + 1, j + 1, rfl, by first | rfl | (rw [show wrap64 ((j : Int) + 1) = (j : Int) + 1 by simp only [wrap64]; omega]), by omega, by omega, Lib.hid (by rw [HS.out, HN.out, HT0.out, Nat.add_zero]), HB2⟩
          case measure => first | (simp [intOf]; done) | (simp [intOf]; omega)
    · have hzn : ¬ z < 4 := by omega
      obtain rfl : j = 4 := by omega
      subst hz
      go_wp2_with fail
      go_ret
      exact ⟨by rw [HW.out, HS.out] <;> rfl, HB.out⟩
set_option maxRecDepth 100000 in
set_option maxHeartbeats 600000 in
theorem rways_1 (hH : HalR 1) (hR : WaysR 1) : WaysR 2 := by
  intro cap m dap base ao bo p q f w hm hb P hc hd
  have P2 : Pm (2 * sz 1) p q := P
  have hb1 : base + 20 ≤ m := hb
  have hmm : (m : Int) ≤ 80 := by omega
  have hbm : (base : Int) + 20 ≤ (m : Int) := by omega
  have b0 : (0 : Int) ≤ (base : Int) := by omega
  obtain ⟨T, hT⟩ : ∃ T, tmR 1 p q (fun i => f (base + i)) = T := ⟨_, rfl⟩
  have HW := Lib.hid (show wN 2 p (fun i => f (base + i)) = su T 16 by rw [← hT]; exact wN_q P2)
  have HLe : Hid (∀ j, j ≤ 16 → su T j ≤ 72057594037927936) := Lib.hid (fun j hj => by rw [← hT]; exact tm_le (by decide) P2 hj)
  have HT := Lib.hid hT
  have HP := Lib.hid P2
  have HC := Lib.hid hc
  have HD := Lib.hid hd
  clear hc hd P P2 hT
  show Calls Try.prog 60 #[.slice ao 8 cap, .slice bo m dap, .int .i64 (base : Int)] w _
  go_enter Try.func60, Try.ntmps60
  go_wp2_with fail
  go_loopw [8, 9] (fun sv iv wr => ∃ (S z : Int) (j : Nat), sv = .int .i64 S ∧ iv = .int .i64 z ∧ z = j ∧ j ≤ 16 ∧ Hid (S = ((su T j : Nat) : Int)) ∧ Hid (Below w.heap.size w wr)) (fun _ iv _ => 16 - (intOf iv).toNat)
  case atStart => exact ⟨0, 0, 0, rfl, rfl, rfl, by omega, Lib.hid rfl, Lib.hid (Below.refl _ _)⟩
  case round =>
    obtain ⟨S, z, j, rfl, rfl, hz, hj, HS, HB⟩ := hrel
    have hS0 : 0 ≤ S := by rw [HS.out]; omega
    have hS1 : S ≤ 72057594037927936 := by rw [HS.out]; have := HLe.out j hj; omega
    by_cases hlt : j < 16
    · have hlt' : z < 16 := by omega
      have HN : Hid (su T (j + 1) = su T j + T j) := Lib.hid rfl
      have HL2 : Hid (su T (j + 1) ≤ 72057594037927936) := Lib.hid (HLe.out (j + 1) (by omega))
      subst hz
      have j00 : (0 : Int) ≤ (j : Int) := by omega
      have hcall := hH cap m dap base j ao bo p q f wr hm (by show base + 8 ≤ m; omega) HP.out hlt (HC.out.keep HB.out) (HD.out.keep HB.out)
      go_wp2_with fail
      refine hcall.mono ?_
      clear hcall
      rintro e w1 ⟨U, V, t, rfl, hB1, ht, hres⟩
      have HB1 := Lib.hid (HB.out.trans (hB1.mono HB.out.size))
      clear hB1
      cases t
      · have HT0 : Hid (T j = 0) := Lib.hid (by rw [← HT.out]; exact tmR_no ht.symm)
        clear hres ht
        go_wp2_with fail
        go_roundw
        case rel => exact ⟨S, (j : Int) + 1, j + 1, rfl, by first | rfl | (rw [show wrap64 ((j : Int) + 1) = (j : Int) + 1 by simp only [wrap64]; omega]), by omega, by omega, Lib.hid (by rw [HS.out, HN.out, HT0.out, Nat.add_zero]), HB1⟩
        case measure => first | (simp [intOf]; done) | (simp [intOf]; omega)
      · have HT1 := Lib.hid ((congrFun HT.out.symm j).trans (tmR_yes ht.symm))
        have G : Ben.Good (sz 1) q (sdF (bt j)) := by
          have h1 := ht.symm
          rw [Bool.and_eq_true] at h1
          exact ⟨fun x _ => sdF_pt _ x, of_decide_eq_true h1.1⟩
        obtain ⟨uo, vo, cu, cv, rfl, rfl, hu, hv⟩ := hres rfl
        have PU := upS_pm HP.out G
        have HPV := Lib.hid (loS_pm HP.out G)
        clear hres ht G
        have HV := Lib.hid hv
        clear hv
        have hc1 := hR cu m dap (base + 8) uo bo _ _ f w1 hm (by show base + 8 + 6 ≤ m; omega) PU hu (HD.out.keep HB1.out)
        rw [show ((base + 8 : Nat) : Int) = (base : Int) + 8 from rfl] at hc1
        clear PU hu
        obtain ⟨x, hx⟩ : ∃ x, wN 1 (upS p (sdF (bt j))) (fun i => f (base + 8 + i)) = x := ⟨_, rfl⟩
        rw [hx] at hc1
        have HX : Hid (T j = x * wN 1 (loS p (sdF (bt j))) (fun i => f (base + 8 + 6 + i))) := Lib.hid (by
          rw [HT1.out, ← hx]
          simp only [Nat.add_assoc]
          rfl)
        have hxl : x ≤ 1048576 := by rw [← hx]; exact Nat.le_trans (wN_le _ _ _) (by decide)
        clear hx HT1
        go_wp2_with fail
        refine hc1.mono ?_
        clear hc1
        rintro e w2 ⟨rfl, hB2⟩
        have HB2 := Lib.hid (HB1.out.trans (hB2.mono HB1.out.size))
        have HV2 := Lib.hid (HV.out.keep hB2)
        clear hB2 HV
        by_cases hx0 : 0 < x
        · go_wp2_with fail
          refine Calls.mono (show Calls Try.prog 50 #[.int .i64 4] w2 (fun e w' => e = .returned (.int .i64 6) ∧ w2 = w') from switches_any 1 (by decide) w2) ?_
          rintro e w' ⟨rfl, rfl⟩
          have hc2 := hR cv m dap (base + 8 + 6) vo bo _ _ f w2 hm (by show base + 8 + 6 + 6 ≤ m; omega) HPV.out HV2.out (HD.out.keep HB2.out)
          rw [show ((base + 8 + 6 : Nat) : Int) = (base : Int) + 8 + 6 from rfl] at hc2
          obtain ⟨y, hy⟩ : ∃ y, wN 1 (loS p (sdF (bt j))) (fun i => f (base + 8 + 6 + i)) = y := ⟨_, rfl⟩
          rw [hy] at hc2 HX
          have hyl : y ≤ 1048576 := by rw [← hy]; exact Nat.le_trans (wN_le _ _ _) (by decide)
          clear hy HV2 HPV
          go_wp2_with fail
          refine hc2.mono ?_
          clear hc2
          rintro e w3 ⟨rfl, hB3⟩
          have HB3 := Lib.hid (HB2.out.trans (hB3.mono HB2.out.size))
          clear hB3
          go_wp2_with fail
          go_roundw
          case rel => exact ⟨((su T (j + 1) : Nat) : Int), (j : Int) + 1, j + 1, (by
            have e1 := HX.out
            have e2 := HN.out
            have e3 := HL2.out
            have e4 := HS.out
            obtain ⟨Q, hQ⟩ : ∃ Q, x * y = Q := ⟨_, rfl⟩
            rw [e2, e1, hQ] at e3
            rw [e4, e2, e1, ← Int.natCast_mul, hQ, show wrap64 ((Q : Nat) : Int) = (Q : Int) by simp only [wrap64]; omega,
              show wrap64 (((su T j : Nat) : Int) + (Q : Int)) = ((su T j + Q : Nat) : Int) by simp only [wrap64]; omega]), by first | rfl | (rw [show wrap64 ((j : Int) + 1) = (j : Int) + 1 by simp only [wrap64]; omega]), by omega, by omega, Lib.hid rfl, HB3⟩
          case measure => first | (simp [intOf]; done) | (simp [intOf]; omega)
        · have HT0 : Hid (T j = 0) := Lib.hid (by rw [HX.out, show x = 0 by omega, Nat.zero_mul])
          clear HV2 HPV
          go_wp2_with fail
          go_roundw
          case rel => exact ⟨S, (j : Int) + 1, j + 1, rfl, by first | rfl | (rw [show wrap64 ((j : Int) + 1) = (j : Int) + 1 by simp only [wrap64]; omega]), by omega, by omega, Lib.hid (by rw [HS.out, HN.out, HT0.out, Nat.add_zero]), HB2⟩
          case measure => first | (simp [intOf]; done) | (simp [intOf]; omega)
    · have hzn : ¬ z < 16 := by omega
      obtain rfl : j = 16 := by omega
      subst hz
      go_wp2_with fail
      go_ret
      exact ⟨by rw [HW.out, HS.out] <;> rfl, HB.out⟩
set_option maxRecDepth 100000 in
set_option maxHeartbeats 600000 in
theorem rways_2 (hH : HalR 2) (hR : WaysR 2) : WaysR 3 := by
  intro cap m dap base ao bo p q f w hm hb P hc hd
  have P2 : Pm (2 * sz 2) p q := P
  have hb1 : base + 56 ≤ m := hb
  have hmm : (m : Int) ≤ 80 := by omega
  have hbm : (base : Int) + 56 ≤ (m : Int) := by omega
  have b0 : (0 : Int) ≤ (base : Int) := by omega
  obtain ⟨T, hT⟩ : ∃ T, tmR 2 p q (fun i => f (base + i)) = T := ⟨_, rfl⟩
  have HW := Lib.hid (show wN 3 p (fun i => f (base + i)) = su T 256 by rw [← hT]; exact wN_q P2)
  have HLe : Hid (∀ j, j ≤ 256 → su T j ≤ 72057594037927936) := Lib.hid (fun j hj => by rw [← hT]; exact tm_le (by decide) P2 hj)
  have HT := Lib.hid hT
  have HP := Lib.hid P2
  have HC := Lib.hid hc
  have HD := Lib.hid hd
  clear hc hd P P2 hT
  show Calls Try.prog 60 #[.slice ao 16 cap, .slice bo m dap, .int .i64 (base : Int)] w _
  go_enter Try.func60, Try.ntmps60
  go_wp2_with fail
  go_loopw [8, 9] (fun sv iv wr => ∃ (S z : Int) (j : Nat), sv = .int .i64 S ∧ iv = .int .i64 z ∧ z = j ∧ j ≤ 256 ∧ Hid (S = ((su T j : Nat) : Int)) ∧ Hid (Below w.heap.size w wr)) (fun _ iv _ => 256 - (intOf iv).toNat)
  case atStart => exact ⟨0, 0, 0, rfl, rfl, rfl, by omega, Lib.hid rfl, Lib.hid (Below.refl _ _)⟩
  case round =>
    obtain ⟨S, z, j, rfl, rfl, hz, hj, HS, HB⟩ := hrel
    have hS0 : 0 ≤ S := by rw [HS.out]; omega
    have hS1 : S ≤ 72057594037927936 := by rw [HS.out]; have := HLe.out j hj; omega
    by_cases hlt : j < 256
    · have hlt' : z < 256 := by omega
      have HN : Hid (su T (j + 1) = su T j + T j) := Lib.hid rfl
      have HL2 : Hid (su T (j + 1) ≤ 72057594037927936) := Lib.hid (HLe.out (j + 1) (by omega))
      subst hz
      have j00 : (0 : Int) ≤ (j : Int) := by omega
      have hcall := hH cap m dap base j ao bo p q f wr hm (by show base + 16 ≤ m; omega) HP.out hlt (HC.out.keep HB.out) (HD.out.keep HB.out)
      go_wp2_with fail
      refine hcall.mono ?_
      clear hcall
      rintro e w1 ⟨U, V, t, rfl, hB1, ht, hres⟩
      have HB1 := Lib.hid (HB.out.trans (hB1.mono HB.out.size))
      clear hB1
      cases t
      · have HT0 : Hid (T j = 0) := Lib.hid (by rw [← HT.out]; exact tmR_no ht.symm)
        clear hres ht
        go_wp2_with fail
        go_roundw
        case rel => exact ⟨S, (j : Int) + 1, j + 1, rfl, by first | rfl | (rw [show wrap64 ((j : Int) + 1) = (j : Int) + 1 by simp only [wrap64]; omega]), by omega, by omega, Lib.hid (by rw [HS.out, HN.out, HT0.out, Nat.add_zero]), HB1⟩
        case measure => first | (simp [intOf]; done) | (simp [intOf]; omega)
      · have HT1 := Lib.hid ((congrFun HT.out.symm j).trans (tmR_yes ht.symm))
        have G : Ben.Good (sz 2) q (sdF (bt j)) := by
          have h1 := ht.symm
          rw [Bool.and_eq_true] at h1
          exact ⟨fun x _ => sdF_pt _ x, of_decide_eq_true h1.1⟩
        obtain ⟨uo, vo, cu, cv, rfl, rfl, hu, hv⟩ := hres rfl
        have PU := upS_pm HP.out G
        have HPV := Lib.hid (loS_pm HP.out G)
        clear hres ht G
        have HV := Lib.hid hv
        clear hv
        have hc1 := hR cu m dap (base + 16) uo bo _ _ f w1 hm (by show base + 16 + 20 ≤ m; omega) PU hu (HD.out.keep HB1.out)
        rw [show ((base + 16 : Nat) : Int) = (base : Int) + 16 from rfl] at hc1
        clear PU hu
        obtain ⟨x, hx⟩ : ∃ x, wN 2 (upS p (sdF (bt j))) (fun i => f (base + 16 + i)) = x := ⟨_, rfl⟩
        rw [hx] at hc1
        have HX : Hid (T j = x * wN 2 (loS p (sdF (bt j))) (fun i => f (base + 16 + 20 + i))) := Lib.hid (by
          rw [HT1.out, ← hx]
          simp only [Nat.add_assoc]
          rfl)
        have hxl : x ≤ 1048576 := by rw [← hx]; exact Nat.le_trans (wN_le _ _ _) (by decide)
        clear hx HT1
        go_wp2_with fail
        refine hc1.mono ?_
        clear hc1
        rintro e w2 ⟨rfl, hB2⟩
        have HB2 := Lib.hid (HB1.out.trans (hB2.mono HB1.out.size))
        have HV2 := Lib.hid (HV.out.keep hB2)
        clear hB2 HV
        by_cases hx0 : 0 < x
        · go_wp2_with fail
          refine Calls.mono (show Calls Try.prog 50 #[.int .i64 8] w2 (fun e w' => e = .returned (.int .i64 20) ∧ w2 = w') from switches_any 2 (by decide) w2) ?_
          rintro e w' ⟨rfl, rfl⟩
          have hc2 := hR cv m dap (base + 16 + 20) vo bo _ _ f w2 hm (by show base + 16 + 20 + 20 ≤ m; omega) HPV.out HV2.out (HD.out.keep HB2.out)
          rw [show ((base + 16 + 20 : Nat) : Int) = (base : Int) + 16 + 20 from rfl] at hc2
          obtain ⟨y, hy⟩ : ∃ y, wN 2 (loS p (sdF (bt j))) (fun i => f (base + 16 + 20 + i)) = y := ⟨_, rfl⟩
          rw [hy] at hc2 HX
          have hyl : y ≤ 1048576 := by rw [← hy]; exact Nat.le_trans (wN_le _ _ _) (by decide)
          clear hy HV2 HPV
          go_wp2_with fail
          refine hc2.mono ?_
          clear hc2
          rintro e w3 ⟨rfl, hB3⟩
          have HB3 := Lib.hid (HB2.out.trans (hB3.mono HB2.out.size))
          clear hB3
          go_wp2_with fail
          go_roundw
          case rel => exact ⟨((su T (j + 1) : Nat) : Int), (j : Int) + 1, j + 1, (by
            have e1 := HX.out
            have e2 := HN.out
            have e3 := HL2.out
            have e4 := HS.out
            obtain ⟨Q, hQ⟩ : ∃ Q, x * y = Q := ⟨_, rfl⟩
            rw [e2, e1, hQ] at e3
            rw [e4, e2, e1, ← Int.natCast_mul, hQ, show wrap64 ((Q : Nat) : Int) = (Q : Int) by simp only [wrap64]; omega,
              show wrap64 (((su T j : Nat) : Int) + (Q : Int)) = ((su T j + Q : Nat) : Int) by simp only [wrap64]; omega]), by first | rfl | (rw [show wrap64 ((j : Int) + 1) = (j : Int) + 1 by simp only [wrap64]; omega]), by omega, by omega, Lib.hid rfl, HB3⟩
          case measure => first | (simp [intOf]; done) | (simp [intOf]; omega)
        · have HT0 : Hid (T j = 0) := Lib.hid (by rw [HX.out, show x = 0 by omega, Nat.zero_mul])
          clear HV2 HPV
          go_wp2_with fail
          go_roundw
          case rel => exact ⟨S, (j : Int) + 1, j + 1, rfl, by first | rfl | (rw [show wrap64 ((j : Int) + 1) = (j : Int) + 1 by simp only [wrap64]; omega]), by omega, by omega, Lib.hid (by rw [HS.out, HN.out, HT0.out, Nat.add_zero]), HB2⟩
          case measure => first | (simp [intOf]; done) | (simp [intOf]; omega)
    · have hzn : ¬ z < 256 := by omega
      obtain rfl : j = 256 := by omega
      subst hz
      go_wp2_with fail
      go_ret
      exact ⟨by rw [HW.out, HS.out] <;> rfl, HB.out⟩
end Go.Proofs.Ytfilofnkiocbeaa
