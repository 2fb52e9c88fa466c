import Derived.Test.YtilclpldfoifkaaEm
namespace Encl
open Go.Proofs.Ytilclpldfoifkaa (ringS)
/-- What unit hands back for the 1024 parts of a turn stays near the circle. -/
def uck (n : Nat) : Bool := match unitS n with
  | .ok u => decide (u.re.hi ≤ 1073741924)
  | .bad _ => false
theorem uck_all : ∀ n : Fin 1024, uck n.val = true := by decide +kernel
theorem bit_mod (n : Int) (b : Nat) (h : b < 10) : n % 1024 / 2 ^ b % 2 = n / 2 ^ b % 2 := by
  have : b = 0 ∨ b = 1 ∨ b = 2 ∨ b = 3 ∨ b = 4 ∨ b = 5 ∨ b = 6 ∨ b = 7 ∨ b = 8 ∨ b = 9 := by omega
  rcases this with rfl | rfl | rfl | rfl | rfl | rfl | rfl | rfl | rfl | rfl <;> simp only [show ((2 : Int) ^ 0) = 1 from rfl, show ((2 : Int) ^ 1) = 2 from rfl, show ((2 : Int) ^ 2) = 4 from rfl, show ((2 : Int) ^ 3) = 8 from rfl, show ((2 : Int) ^ 4) = 16 from rfl, show ((2 : Int) ^ 5) = 32 from rfl, show ((2 : Int) ^ 6) = 64 from rfl, show ((2 : Int) ^ 7) = 128 from rfl, show ((2 : Int) ^ 8) = 256 from rfl, show ((2 : Int) ^ 9) = 512 from rfl] <;> omega
theorem unitGo_mod (n : Int) : ∀ (b : Nat) (z : Rc), b ≤ 10 → unitGo (n % 1024) b z = unitGo n b z
  | 0, z, _ => rfl
  | b + 1, z, h => by
    unfold unitGo
    rw [bit_mod n b (by omega)]
    split
    · congr 1
      funext r
      exact unitGo_mod n b r (by omega)
    · exact unitGo_mod n b z (by omega)
theorem unit_near (n : Int) : ∃ u, unitS n = .ok u ∧ u.re.hi ≤ 1073741924 ∧ okR u = true := by
  have h := uck_all ⟨(n % 1024).toNat, by omega⟩
  simp only [uck] at h
  rw [show (((n % 1024).toNat : Nat) : Int) = n % 1024 by omega] at h
  rw [show unitS (n % 1024) = unitS n from unitGo_mod n 10 _ (by omega)] at h
  cases hu : unitS n with
  | bad k => rw [hu] at h; exact absurd h (by simp)
  | ok u =>
    rw [hu] at h
    exact ⟨u, rfl, of_decide_eq_true h, Go.Proofs.Ytilclpldfoifkaa.unitS_ok hu⟩

/-! ### Only the fourth error -/
def Only4 {α : Type} (o : Out α) : Prop := ∀ k, o = .bad k → k = 4
theorem only_inR (s : Sp) : Only4 (inR s) := by
  intro k h
  unfold inR at h
  split at h <;> cases h
  rfl
theorem only_bind {α β : Type} {o : Out α} {f : α → Out β} (h : Only4 o) (hf : ∀ a, o = .ok a → Only4 (f a)) : Only4 (o.bind f) := by
  cases o with
  | bad k => intro j hj; cases hj; exact h _ rfl
  | ok a => exact hf a rfl
theorem only_ok {α : Type} (a : α) : Only4 (.ok a : Out α) := fun _ h => by cases h
theorem only_addS (x y : Sp) : Only4 (addS x y) := only_inR _
theorem only_subS (x y : Sp) : Only4 (subS x y) := only_inR _
theorem only_mulS (x y : Sp) : Only4 (mulS x y) := by rw [mulS_eq]; exact only_inR _
theorem only_sqS (x : Sp) : Only4 (sqS x) := by rw [sqS_eq]; exact only_inR _
theorem only_divS (x y : Sp) (h : 0 < y.lo) (h2 : y.lo ≤ y.hi) : Only4 (divS x y) := by rw [divS_eq x y h h2]; exact only_inR _
theorem only_mulR (x y : Rc) : Only4 (mulR x y) :=
  only_bind (only_mulS _ _) fun _ _ => only_bind (only_mulS _ _) fun _ _ => only_bind (only_subS _ _) fun _ _ => only_bind (only_mulS _ _) fun _ _ => only_bind (only_mulS _ _) fun _ _ => only_bind (only_addS _ _) fun _ _ => only_ok _
theorem only_subR (x y : Rc) : Only4 (subR x y) :=
  only_bind (only_subS _ _) fun _ _ => only_bind (only_subS _ _) fun _ _ => only_ok _
theorem only_powR (x : Rc) : Only4 (powR x) :=
  only_bind (only_sqS _) fun _ _ => only_bind (only_sqS _) fun _ _ => only_addS _ _

/-! ### Bounds -/
theorem inR_val {s t : Sp} (h : inR s = .ok t) : t = s := by
  unfold inR at h
  split at h <;> cases h
  rfl
theorem mulS_zero (y : Sp) : mulS ⟨0, 0⟩ y = .ok ⟨0, 0⟩ := by
  rw [mulS_eq]
  simp only [fl, ce, Int.zero_mul, Int.neg_zero, Int.zero_ediv]
  decide
theorem mulS_zero' (y : Sp) : mulS y ⟨0, 0⟩ = .ok ⟨0, 0⟩ := by
  rw [mulS_eq]
  simp only [fl, ce, Int.mul_zero, Int.neg_zero, Int.zero_ediv]
  decide
theorem mul_up {x y X B : Int} (h0 : 0 ≤ x) (h1 : x ≤ X) (h2 : y ≤ B) (hB : 0 ≤ B) : ce x y 1073741824 ≤ ce X B 1073741824 := by
  rw [ce_le (by omega)]
  have h3 : X * B ≤ ce X B 1073741824 * 1073741824 := (ce_le (by omega)).1 (Int.le_refl _)
  have h4 : x * y ≤ x * B := Int.mul_le_mul_of_nonneg_left h2 h0
  have h5 : x * B ≤ X * B := Int.mul_le_mul_of_nonneg_right h1 hB
  omega
theorem mulS_hi {x y s : Sp} {X B : Int} (h : mulS x y = .ok s) (h0 : 0 ≤ x.lo) (h1 : x.lo ≤ x.hi) (hX : x.hi ≤ X) (h2 : y.lo ≤ y.hi) (hB : y.hi ≤ B) (hB0 : 0 ≤ B) : s.hi ≤ ce X B 1073741824 := by
  rw [mulS_eq] at h
  have := inR_val h
  subst this
  simp only
  have a1 := mul_up h0 (show x.lo ≤ X by omega) (show y.lo ≤ B by omega) hB0
  have a2 := mul_up h0 (show x.lo ≤ X by omega) hB hB0
  have a3 := mul_up (show 0 ≤ x.hi by omega) hX (show y.lo ≤ B by omega) hB0
  have a4 := mul_up (show 0 ≤ x.hi by omega) hX hB hB0
  omega
/-- The real part of a number on the axis times another. -/
theorem mulR_axis {x : Sp} {y v : Rc} (h : mulR ⟨x, ⟨0, 0⟩⟩ y = .ok v) : ∃ s, mulS x y.re = .ok s ∧ v.re = s := by
  unfold mulR at h
  obtain ⟨s, hs, h⟩ := bind_okI h
  rw [mulS_zero] at h
  simp only [Out.bind_ok] at h
  obtain ⟨re, hre, h⟩ := bind_okI h
  obtain ⟨c, hc, h⟩ := bind_okI h
  obtain ⟨d, hd, h⟩ := bind_okI h
  obtain ⟨im, him, h⟩ := bind_okI h
  refine ⟨s, hs, ?_⟩
  cases h
  have := inR_val hre
  rw [this]
  simp [negS]
theorem scS_val {a d : Int} {s : Sp} (h : scS a 1073741824 d = .ok s) : s.lo = fl a 1073741824 d ∧ s.hi = ce a 1073741824 d := by
  have := inR_val h
  subst this
  exact ⟨rfl, rfl⟩
theorem pow_pos {x : Rc} {p : Sp} (h : powR x = .ok p) (h0 : 100000000 ≤ x.re.lo) (h1 : x.re.lo ≤ x.re.hi) : 0 < p.lo := by
  unfold powR at h
  obtain ⟨a, ha, h⟩ := bind_okI h
  obtain ⟨b, hb, h⟩ := bind_okI h
  have hp := inR_val h
  subst hp
  rw [sqS_eq] at ha hb
  have ha := inR_val ha
  have hb := inR_val hb
  subst ha
  subst hb
  simp only
  have z1 : 1 ≤ (zlo x.re ⟨min (fl x.re.lo x.re.lo 1073741824) (fl x.re.hi x.re.hi 1073741824), max (ce x.re.lo x.re.lo 1073741824) (ce x.re.hi x.re.hi 1073741824)⟩).lo := by
    unfold zlo
    rw [if_neg (by omega)]
    simp only
    have e1 : 1 ≤ fl x.re.lo x.re.lo 1073741824 := by
      rw [le_fl (by omega)]
      have := Int.mul_le_mul h0 h0 (by omega) (show 0 ≤ x.re.lo by omega)
      omega
    have e2 : 1 ≤ fl x.re.hi x.re.hi 1073741824 := by
      rw [le_fl (by omega)]
      have := Int.mul_le_mul (show 100000000 ≤ x.re.hi by omega) (show 100000000 ≤ x.re.hi by omega) (by omega) (show 0 ≤ x.re.hi by omega)
      omega
    omega
  have z2 : 0 ≤ (zlo x.im ⟨min (fl x.im.lo x.im.lo 1073741824) (fl x.im.hi x.im.hi 1073741824), max (ce x.im.lo x.im.lo 1073741824) (ce x.im.hi x.im.hi 1073741824)⟩).lo := by
    unfold zlo
    have e1 := fl_sq x.im.lo
    have e2 := fl_sq x.im.hi
    split
    · exact Int.le_refl 0
    · simp only; omega
  omega
theorem scS_part {t N : Int} (h0 : 0 ≤ t) (h1 : t ≤ N) (hN : N ≤ 1000000) : ∃ T, scS t 1073741824 1000000 = .ok T ∧ 0 ≤ T.lo ∧ T.lo ≤ T.hi ∧ T.hi ≤ ce N 1073741824 1000000 := by
  have a1 : 0 ≤ fl t 1073741824 1000000 := (le_fl (by omega)).2 (by omega)
  have a2 : ce t 1073741824 1000000 ≤ ce N 1073741824 1000000 := by
    rw [ce_le (by omega)]
    have : N * 1073741824 ≤ ce N 1073741824 1000000 * 1000000 := (ce_le (by omega)).1 (Int.le_refl _)
    omega
  have a3 : ce t 1073741824 1000000 ≤ 1073741824 := by rw [ce_le (by omega)]; omega
  have a4 := fl_le_ce t 1073741824 (d := 1000000) (by omega)
  refine ⟨_, inR_ok ?_, a1, a4, a2⟩
  rw [okS_iff]
  simp only
  omega
/-- A ring that lets at most 900000 millionths through at its coupling or on its way divides by no nought. -/
theorem ring_only {t a N M : Int} (n : Int) (ht0 : 0 ≤ t) (ht : t ≤ N) (hN : N ≤ 1000000) (ha0 : 0 ≤ a) (ha : a ≤ M) (hM : M ≤ 1000000)
    (hV0 : 0 ≤ ce (ce M 1073741824 1000000) 1073741924 1073741824) (hV : ce (ce N 1073741824 1000000) (ce (ce M 1073741824 1000000) 1073741924 1073741824) 1073741824 ≤ 973741824) : Only4 (ringS t a n) := by
  obtain ⟨T, hT, T0, T1, T2⟩ := scS_part ht0 ht hN
  obtain ⟨A, hA, A0, A1, A2⟩ := scS_part ha0 ha hM
  obtain ⟨u, hu, hu1, hu2⟩ := unit_near n
  have hu3 := (okS_iff _).1 ((okR_iff _).1 hu2).1
  unfold ringS
  rw [hT, hA, hu]
  simp only [Out.bind_ok]
  refine only_bind (only_mulR _ _) fun v hv => ?_
  obtain ⟨s, hs, hvs⟩ := mulR_axis hv
  have hs2 := mulS_hi hs A0 A1 A2 hu3.2.1 hu1 (by omega)
  have hv2 := (okS_iff _).1 ((okR_iff _).1 (mulR_ok hv)).1
  refine only_bind (only_subR _ _) fun z hz => ?_
  refine only_bind (only_mulR _ _) fun x hx => ?_
  obtain ⟨s', hs', hxs⟩ := mulR_axis hx
  have hs2' := mulS_hi hs' T0 T1 T2 hv2.2.1 (show v.re.hi ≤ _ by rw [hvs]; exact hs2) hV0
  have hx2 := (okS_iff _).1 ((okR_iff _).1 (mulR_ok hx)).1
  refine only_bind (only_subR _ _) fun d hd => ?_
  have hd2 := (okS_iff _).1 ((okR_iff _).1 (subR_ok hd)).1
  have hdlo : d.re.lo = 1073741824 - x.re.hi := by
    unfold subR at hd
    obtain ⟨re, hre, hd⟩ := bind_okI hd
    obtain ⟨im, him, hd⟩ := bind_okI hd
    cases hd
    have := inR_val hre
    rw [this]
    simp only [negS]
    omega
  have hbig : 100000000 ≤ d.re.lo := by rw [hdlo, hxs]; omega
  unfold divR
  refine only_bind (only_powR _) fun p hp => ?_
  have hpp := pow_pos hp hbig hd2.2.1
  have hpo := (okS_iff _).1 (powR_ok hp)
  rw [if_neg (by omega)]
  exact only_bind (only_mulR _ _) fun _ _ => only_bind (only_divS _ _ hpp hpo.2.1) fun _ _ => only_bind (only_divS _ _ hpp hpo.2.1) fun _ _ => only_ok _
theorem ring_only_a {t a : Int} (n : Int) (ht0 : 0 ≤ t) (ht : t ≤ 1000000) (ha0 : 0 ≤ a) (ha : a ≤ 900000) : Only4 (ringS t a n) :=
  ring_only n ht0 ht (by omega) ha0 ha (by omega) (by decide) (by decide)
theorem ring_only_t {t a : Int} (n : Int) (ht0 : 0 ≤ t) (ht : t ≤ 900000) (ha0 : 0 ≤ a) (ha : a ≤ 1000000) : Only4 (ringS t a n) :=
  ring_only n ht0 ht (by omega) ha0 ha (by omega) (by decide) (by decide)
/-- With a loss of all of it, a ring lets its coupling through. -/
theorem ring_lost {t : Int} (n : Int) (ht0 : 0 ≤ t) (ht : t ≤ 1000000) : ∃ T, scS t 1073741824 1000000 = .ok T ∧ ringS t 0 n = .ok ⟨T, ⟨0, 0⟩⟩ := by
  obtain ⟨T, hT, T0, T1, T2⟩ := scS_part ht0 ht (by omega)
  have hTO : okS T = true := inR_okS hT
  have T3 : T.hi ≤ 1073741824 := T2
  obtain ⟨u, hu, hu1, hu2⟩ := unit_near n
  refine ⟨T, hT, ?_⟩
  have hA : scS 0 1073741824 1000000 = .ok ⟨0, 0⟩ := by decide
  have m0 : mulR ⟨⟨0, 0⟩, ⟨0, 0⟩⟩ u = .ok ⟨⟨0, 0⟩, ⟨0, 0⟩⟩ := by unfold mulR; simp only [mulS_zero, Out.bind_ok]; decide
  have s0 : subR ⟨T, ⟨0, 0⟩⟩ ⟨⟨0, 0⟩, ⟨0, 0⟩⟩ = .ok ⟨T, ⟨0, 0⟩⟩ := by
    have : subS T ⟨0, 0⟩ = .ok T := by
      unfold subS addS negS
      simp only [Int.neg_zero, Int.add_zero]
      exact inR_ok hTO
    unfold subR
    simp only [this, Out.bind_ok]
    rw [show subS ⟨0, 0⟩ ⟨0, 0⟩ = .ok ⟨0, 0⟩ from by decide]
    rfl
  have m1 : mulR ⟨T, ⟨0, 0⟩⟩ ⟨⟨0, 0⟩, ⟨0, 0⟩⟩ = .ok ⟨⟨0, 0⟩, ⟨0, 0⟩⟩ := by unfold mulR; simp only [mulS_zero', Out.bind_ok]; decide
  have s1 : subR ⟨⟨1073741824, 1073741824⟩, ⟨0, 0⟩⟩ ⟨⟨0, 0⟩, ⟨0, 0⟩⟩ = .ok ⟨⟨1073741824, 1073741824⟩, ⟨0, 0⟩⟩ := by decide
  have p1 : powR ⟨⟨1073741824, 1073741824⟩, ⟨0, 0⟩⟩ = .ok ⟨1073741824, 1073741824⟩ := by decide
  have f1 : ∀ x : Int, fl x 1073741824 1073741824 = x := fun x => by unfold fl; exact Int.mul_ediv_cancel x (by omega)
  have c1 : ∀ x : Int, ce x 1073741824 1073741824 = x := fun x => by unfold ce; rw [← Int.neg_mul, Int.mul_ediv_cancel _ (by omega), Int.neg_neg]
  have hm : inR ⟨min (min (min T.lo T.lo) T.hi) T.hi, max (max (max T.lo T.lo) T.hi) T.hi⟩ = .ok T := by
    have : (⟨min (min (min T.lo T.lo) T.hi) T.hi, max (max (max T.lo T.lo) T.hi) T.hi⟩ : Sp) = T := Sp.ext' (by simp only; omega) (by simp only; omega)
    rw [this]
    exact inR_ok hTO
  have mT : mulS T ⟨1073741824, 1073741824⟩ = .ok T := by
    rw [mulS_eq]
    simp only [f1, c1]
    exact hm
  have dT : divS T ⟨1073741824, 1073741824⟩ = .ok T := by
    rw [divS_eq _ _ (by simp) (by simp)]
    simp only [f1, c1]
    exact hm
  have d0 : divS ⟨0, 0⟩ ⟨1073741824, 1073741824⟩ = .ok ⟨0, 0⟩ := by decide
  have a0 : subS T ⟨0, 0⟩ = .ok T := by
    unfold subS addS negS
    simp only [Int.neg_zero, Int.add_zero]
    exact inR_ok hTO
  have m2 : mulR ⟨T, ⟨0, 0⟩⟩ (cjR ⟨⟨1073741824, 1073741824⟩, ⟨0, 0⟩⟩) = .ok ⟨T, ⟨0, 0⟩⟩ := by
    unfold mulR cjR
    simp only [show negS ⟨0, 0⟩ = ⟨0, 0⟩ from rfl, mT, mulS_zero, mulS_zero', a0, Out.bind_ok]
    rw [show addS ⟨0, 0⟩ ⟨0, 0⟩ = .ok ⟨0, 0⟩ from by decide]
    rfl
  unfold ringS
  rw [hT, hA, hu]
  simp only [Out.bind_ok, m0, s0, m1, s1]
  unfold divR
  rw [p1]
  simp only [Out.bind_ok, m2, dT, d0]
  rfl
end Encl
