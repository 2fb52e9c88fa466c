import Derived.Test.YtgbnpnenejgnnaaR
namespace Amp
theorem eqv_iff {x y : C4} {k l : Nat} (N : Nat) (hk : k ≤ N) (hl : l ≤ N) : eqv x k y l ↔ trn (N - k) x = trn (N - l) y := by
  have e1 : trn (k + l) (trn (N - k) x) = trn N (trn l x) := by
    rw [← trn_add, ← trn_add]; congr 1; omega
  have e2 : trn (k + l) (trn (N - l) y) = trn N (trn k y) := by
    rw [← trn_add, ← trn_add]; congr 1; omega
  constructor
  · intro h
    apply trn_inj (n := k + l)
    rw [e1, e2, h]
  · intro h
    apply trn_inj (n := N)
    rw [← e1, ← e2, h]
/-- The sum of a number over the divisor r^N. -/
def sc (N : Nat) (z : Nm) : C4 := trn (N - z.k.toNat) z.v
theorem trn_smul (n : Nat) (s : Int) (x : C4) : trn n (smul s x) = smul s (trn n x) := by
  induction n with
  | zero => rfl
  | succ n ih =>
    rw [trn_succ, ih, trn_succ]
    apply C4.ext' <;> simp only [tr, smul] <;> grind
theorem comb_sc (N : Nat) (x y : Nm) (s : Int) (hx : x.k.toNat ≤ N) (hy : y.k.toNat ≤ N) :
    trn (N - (comb x y s).2) (comb x y s).1 = add (sc N x) (smul s (sc N y)) := by
  unfold comb sc
  simp only
  rw [trn_addd, trn_smul, ← trn_add, ← trn_add]
  congr 2
  · congr 1; omega
  · congr 2; omega
theorem mul_sc (N : Nat) (x y : Nm) (hx : x.k.toNat ≤ N) (hy : y.k.toNat ≤ N) (h0 : 0 ≤ x.k) (h1 : 0 ≤ y.k) :
    trn (N + N - (x.k + y.k).toNat) (mul x.v y.v) = mul (sc N x) (sc N y) := by
  unfold sc
  rw [← trn_mul, ← trn_mul', ← trn_add]
  congr 1; omega
theorem vld_red {z : Nm} (h : vld z = true) : red z.v z.k.toNat = (z.v, z.k.toNat) := by
  apply red_of_form
  rw [vld, Bool.and_eq_true] at h
  have h2 := h.2
  simp at h2
  rcases h2 with h2 | ⟨_, h2⟩
  · left; omega
  · right; exact h2
theorem vld_eq {z z' : Nm} (h : vld z = true) (h' : vld z' = true) (he : eqv z.v z.k.toNat z'.v z'.k.toNat) : z = z' := by
  have e := red_of_eqv he
  rw [vld_red h, vld_red h'] at e
  have k1 := vld_k h
  have k2 := vld_k h'
  simp only [Prod.mk.injEq] at e
  exact Nm.ext' e.1 (by omega)
theorem made_zero {x : C4} {k : Nat} {z : Nm} (h : made x k = (z, 0)) : vld z = true ∧ eqv z.v z.k.toNat x k := by
  unfold made at h
  split at h
  · next hv =>
    simp only [Prod.mk.injEq, and_true] at h
    subst h
    exact ⟨hv, by simpa using eqv_red x k⟩
  · simp at h
theorem made_of_eqv {x : C4} {k : Nat} {z : Nm} (h : vld z = true) (he : eqv x k z.v z.k.toNat) : made x k = (z, 0) := by
  have e := red_of_eqv he
  rw [vld_red h] at e
  have k1 := vld_k h
  unfold made
  rw [e]
  have hz : (⟨z.v, ((z.k.toNat : Nat) : Int)⟩ : Nm) = z := Nm.ext' rfl (by simp only; omega)
  simp only [hz, h, if_true]
theorem made_code {x : C4} {k : Nat} : (made x k).2 = 0 ∨ made x k = (N0, 4) := by
  unfold made; split
  · exact Or.inl rfl
  · exact Or.inr rfl
theorem comb_comm (x y : Nm) : comb x y 1 = comb y x 1 := by
  unfold comb
  rw [Nat.max_comm]
  simp only [Prod.mk.injEq, and_true]
  apply C4.ext' <;> simp only [add, smul] <;> omega
theorem addS_comm (x y : Nm) : addS x y = addS y x := by
  unfold addS; rw [Bool.and_comm, comb_comm]
theorem mulS_comm (x y : Nm) : mulS x y = mulS y x := by
  unfold mulS; rw [Bool.and_comm, mul_comm, Int.add_comm]
theorem addS_zero {x y s : Nm} (h : addS x y = (s, 0)) : vld x = true ∧ vld y = true ∧ vld s = true ∧ ∀ N, x.k.toNat ≤ N → y.k.toNat ≤ N → s.k.toNat ≤ N → sc N s = add (sc N x) (sc N y) := by
  unfold addS at h
  split at h
  · next hv =>
    rw [Bool.and_eq_true] at hv
    obtain ⟨h1, h2⟩ := made_zero h
    refine ⟨hv.1, hv.2, h1, fun N hx hy hs => ?_⟩
    rw [eqv_iff N hs (by unfold comb; simp only; omega), comb_sc N x y 1 hx hy] at h2
    rw [show sc N s = _ from h2]
    congr 1
    apply C4.ext' <;> simp [smul]
  · simp at h
theorem addS_bad {x y s : Nm} {e : Int} (h : addS x y = (s, e)) (he : e ≠ 0) : s = N0 := by
  unfold addS at h
  split at h
  · rcases made_code (x := (comb x y 1).1) (k := (comb x y 1).2) with h1 | h1
    · rw [h] at h1; exact absurd h1 he
    · rw [h1] at h; simp at h; exact h.1.symm
  · simp at h; exact h.1.symm
theorem mulS_zero {x y s : Nm} (h : mulS x y = (s, 0)) : vld x = true ∧ vld y = true ∧ vld s = true ∧ ∀ N, x.k.toNat ≤ N → y.k.toNat ≤ N → s.k.toNat ≤ N + N → sc (N + N) s = mul (sc N x) (sc N y) := by
  unfold mulS at h
  split at h
  · next hv =>
    rw [Bool.and_eq_true] at hv
    obtain ⟨h1, h2⟩ := made_zero h
    have k1 := vld_k hv.1
    have k2 := vld_k hv.2
    refine ⟨hv.1, hv.2, h1, fun N hx hy hs => ?_⟩
    rw [eqv_iff (N + N) hs (by omega), mul_sc N x y hx hy k1.1 k2.1] at h2
    exact h2
  · simp at h
theorem sub_undoes {x y s : Nm} (h : addS x y = (s, 0)) : subS s y = (x, 0) := by
  obtain ⟨hx, hy, hs, hN⟩ := addS_zero h
  have h1 := vld_k hx
  have h2 := vld_k hy
  have h3 := vld_k hs
  unfold subS
  rw [hs, hy]
  apply made_of_eqv hx
  rw [eqv_iff 40 (by unfold comb; simp only; omega) (by omega), comb_sc 40 s y (-1) (by omega) (by omega), hN 40 (by omega) (by omega) (by omega)]
  show _ = sc 40 x
  generalize sc 40 x = X
  generalize sc 40 y = Y
  apply C4.ext' <;> simp only [add, smul] <;> omega
theorem distrib {x y z s p q l r : Nm} (h : addS x y = (s, 0)) (hl : mulS s z = (l, 0)) (hp : mulS x z = (p, 0)) (hq : mulS y z = (q, 0)) (hr : addS p q = (r, 0)) : l = r := by
  obtain ⟨hx, hy, hs, h1⟩ := addS_zero h
  obtain ⟨_, hz, hl', h2⟩ := mulS_zero hl
  obtain ⟨_, _, hp', h3⟩ := mulS_zero hp
  obtain ⟨_, _, hq', h4⟩ := mulS_zero hq
  obtain ⟨_, _, hr', h5⟩ := addS_zero hr
  have k1 := vld_k hx
  have k2 := vld_k hy
  have k3 := vld_k hz
  have k4 := vld_k hs
  have k5 := vld_k hl'
  have k6 := vld_k hp'
  have k7 := vld_k hq'
  have k8 := vld_k hr'
  apply vld_eq hl' hr'
  rw [eqv_iff (40 + 40) (by omega) (by omega)]
  show sc (40 + 40) l = sc (40 + 40) r
  rw [h2 40 (by omega) (by omega) (by omega), h5 (40 + 40) (by omega) (by omega) (by omega), h3 40 (by omega) (by omega) (by omega), h4 40 (by omega) (by omega) (by omega), h1 40 (by omega) (by omega) (by omega), mul_add]
end Amp
