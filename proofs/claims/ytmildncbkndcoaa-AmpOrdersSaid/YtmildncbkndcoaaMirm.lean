import Derived.Test.YtmildncbkndcoaaW
namespace Amp
theorem chg_ok {z : Nm} {g : C4 → C4} (hz : vld z = true) (h : vld ⟨g z.v, z.k⟩ = true) : chgS z g = (⟨g z.v, z.k⟩, 0) := by
  unfold chgS; rw [if_pos hz]; exact made_form hz h
theorem vld_neg {z : Nm} (h : vld z = true) : vld ⟨neg z.v, z.k⟩ = true := vld_form h (neg_bd (vld_sm h)) (dvb_neg _)
theorem vld_conj {z : Nm} (h : vld z = true) : vld ⟨conj z.v, z.k⟩ = true := vld_form h (conj_bd (vld_sm h)) (dvb_conj _)
theorem vld_flip {z : Nm} {k : Int} (h : vld z = true) : vld ⟨flipV z.v k, z.k⟩ = true := vld_form h (flip_bd (vld_sm h)) (dvb_flip _ _)
theorem vld_rot {z : Nm} {n : Nat} (h : vld z = true) : vld ⟨rotn n z.v, z.k⟩ = true := vld_form h (rotn_bd _ (vld_sm h)) (dvb_rotn _ _)
theorem neg_neg (x : C4) : neg (neg x) = x := by apply C4.ext' <;> simp only [neg] <;> omega
theorem flp_flp (x : C4) : flp (flp x) = x := by apply C4.ext' <;> simp only [flp] <;> omega
theorem flp_neg (x : C4) : flp (neg x) = neg (flp x) := by apply C4.ext' <;> simp only [flp, neg]
theorem flip_flip (x : C4) (k : Int) : flipV (flipV x k) k = x := by
  unfold flipV
  by_cases h : k % 2 = 1
  · rw [if_pos h, if_pos h, flp_neg, neg_neg, flp_flp]
  · rw [if_neg h, if_neg h, flp_flp]
theorem rotn_add (m n : Nat) (x : C4) : rotn (m + n) x = rotn m (rotn n x) := by
  induction m with
  | zero => simp [rotn]
  | succ m ih => rw [Nat.add_right_comm, rotn, ih, rotn]
theorem rot8 (x : C4) : rotn 8 x = x := by
  apply C4.ext' <;> simp [rotn, rot]
theorem rot_back (t : Int) (x : C4) : rotn ((-t) % 8).toNat (rotn (t % 8).toNat x) = x := by
  rw [← rotn_add]
  have h : ((-t) % 8).toNat + (t % 8).toNat = 0 ∨ ((-t) % 8).toNat + (t % 8).toNat = 8 := by omega
  rcases h with h | h
  · rw [h]; rfl
  · rw [h, rot8]
theorem trn_neg (n : Nat) (x : C4) : trn n (neg x) = neg (trn n x) := by
  induction n with
  | zero => rfl
  | succ n ih =>
    rw [trn_succ, ih, trn_succ]
    apply C4.ext' <;> simp only [tr, neg] <;> omega
theorem flp_trn (n : Nat) (x : C4) : flp (trn n x) = if n % 2 = 1 then neg (trn n (flp x)) else trn n (flp x) := by
  induction n with
  | zero => rfl
  | succ n ih =>
    rw [trn_succ, flp_tr, ih]
    by_cases h : n % 2 = 1
    · rw [if_pos h, if_neg (by omega), trn_succ]
      apply C4.ext' <;> simp only [tr, neg] <;> omega
    · rw [if_neg h, if_pos (by omega), trn_succ]
theorem mul_neg (x y : C4) : mul (neg x) y = neg (mul x y) := by
  apply C4.ext' <;> simp only [mul, neg] <;> grind
theorem mul_neg' (x y : C4) : mul x (neg y) = neg (mul x y) := by
  apply C4.ext' <;> simp only [mul, neg] <;> grind
theorem conj_mul_zero {x y p : Nm} (h : mulS x y = (p, 0)) : mulS ⟨conj x.v, x.k⟩ ⟨conj y.v, y.k⟩ = (⟨conj p.v, p.k⟩, 0) := by
  unfold mulS at h ⊢
  split at h
  · next hv =>
    rw [Bool.and_eq_true] at hv
    obtain ⟨h1, h2⟩ := made_zero h
    rw [vld_conj hv.1, vld_conj hv.2]
    apply made_of_eqv (vld_conj h1)
    unfold eqv at *
    show trn p.k.toNat (mul (conj x.v) (conj y.v)) = trn (x.k + y.k).toNat (conj p.v)
    rw [← conj_mul, ← conj_trn, ← conj_trn, h2]
  · simp at h
theorem flip_mul_zero {x y p : Nm} (h : mulS x y = (p, 0)) : mulS ⟨flipV x.v x.k, x.k⟩ ⟨flipV y.v y.k, y.k⟩ = (⟨flipV p.v p.k, p.k⟩, 0) := by
  unfold mulS at h ⊢
  split at h
  · next hv =>
    rw [Bool.and_eq_true] at hv
    obtain ⟨h1, h2⟩ := made_zero h
    rw [vld_flip hv.1, vld_flip hv.2]
    apply made_of_eqv (vld_flip h1)
    have k1 := vld_k hv.1
    have k2 := vld_k hv.2
    have k3 := vld_k h1
    unfold eqv at *
    show trn p.k.toNat (mul (flipV x.v x.k) (flipV y.v y.k)) = trn (x.k + y.k).toNat (flipV p.v p.k)
    have e := congrArg flp h2
    rw [flp_trn, flp_trn, flp_mul] at e
    have ek : (x.k + y.k).toNat = x.k.toNat + y.k.toNat := by omega
    unfold flipV
    by_cases a1 : x.k % 2 = 1 <;> by_cases a2 : y.k % 2 = 1 <;> by_cases a3 : p.k % 2 = 1
    all_goals
      simp only [a1, a2, a3, if_true, if_false, mul_neg, mul_neg', neg_neg, trn_neg]
    all_goals
      (first | rw [if_pos (show (x.k + y.k).toNat % 2 = 1 by omega)] at e | rw [if_neg (show ¬ (x.k + y.k).toNat % 2 = 1 by omega)] at e)
      (first | rw [if_pos (show p.k.toNat % 2 = 1 by omega)] at e | rw [if_neg (show ¬ p.k.toNat % 2 = 1 by omega)] at e)
    all_goals first
      | exact e.symm
      | (have e := congrArg neg e; simp only [neg_neg] at e; exact e.symm)
  · simp at h
end Amp
