import Derived.Test.YtgbnpnenejgnnaaOn5
import Derived.Test.YtgbnpnenejgnnaaX
/-! The power of a number times 2^30. For EncloseExact. -/
namespace Amp
theorem conj_trn' (n : Nat) (x : C4) : conj (trn n x) = trn n (conj x) := by
  induction n with
  | zero => rfl
  | succ n ih => rw [trn_succ, trn_succ, ← ih]; unfold conj tr; simp only [C4.mk.injEq]; refine ⟨?_, ?_, ?_, ?_⟩ <;> omega
theorem powS_zero' {x p : Nm} (h : powS x = (p, 0)) : vld x = true ∧ vld p = true ∧ trn (2 * x.k.toNat) p.v = trn p.k.toNat (mul x.v (conj x.v)) := by
  unfold powS at h
  split at h
  · next hv =>
    obtain ⟨h1, h2⟩ := made_zero h
    have k1 := vld_k hv
    refine ⟨hv, h1, ?_⟩
    unfold eqv at h2
    rw [show (2 * x.k).toNat = 2 * x.k.toNat by omega] at h2
    exact h2
  · simp at h
theorem pow_sc' {x p : Nm} (h : powS x = (p, 0)) (N : Nat) (hx : x.k.toNat ≤ N) (hp : p.k.toNat ≤ N + N) : sc (N + N) p = mul (sc N x) (conj (sc N x)) := by
  obtain ⟨_, _, e⟩ := powS_zero' h
  have e2 : eqv p.v p.k.toNat (mul x.v (conj x.v)) (2 * x.k.toNat) := e
  rw [eqv_iff (N + N) hp (by omega)] at e2
  unfold sc
  rw [e2, conj_trn', ← trn_mul, ← trn_mul', ← trn_add]
  congr 1; omega

theorem re_conj (x : C4) : re (conj x) = re x := by unfold re conj; simp only [Zr.mk.injEq]; exact ⟨by omega, trivial⟩
theorem im_conj (x : C4) : im (conj x) = zneg (im x) := by unfold im conj zneg; simp only [Zr.mk.injEq]; exact ⟨by omega, trivial⟩
theorem zr_ext {x y : Zr} (h : x.p = y.p) (g : x.q = y.q) : x = y := by cases x; cases y; simp_all
theorem X_pow {x p : Nm} (h : powS x = (p, 0)) : zadd (zmul (Xr x) (Xr x)) (zmul (Xi x) (Xi x)) = zsm 1073741824 (Xr p) ∧ Xi p = ⟨0, 0⟩ := by
  obtain ⟨hx, hp, _⟩ := powS_zero' h
  have kx := vld_k hx; have kp := vld_k hp
  have e := pow_sc' h 40 (by omega) (by omega)
  have e2 : sc (40 + 40) p = trn 40 (sc 40 p) := by
    unfold sc
    rw [← trn_add, show 40 + 40 - p.k.toNat = 40 + (40 - p.k.toNat) by omega]
  rw [e2] at e
  have r1 := re_mul (sc 40 x) (conj (sc 40 x))
  have r2 := im_mul (sc 40 x) (conj (sc 40 x))
  rw [← e, re_trn, ← mr_add, re_conj, im_conj] at r1
  rw [← e, im_trn, ← mr_add, re_conj, im_conj] at r2
  have n1 : zneg (zmul (im (sc 40 x)) (zneg (im (sc 40 x)))) = zmul (im (sc 40 x)) (im (sc 40 x)) := by
    unfold zneg zmul; simp only [Zr.mk.injEq]; constructor <;> grind
  have n2 : zadd (zmul (re (sc 40 x)) (zneg (im (sc 40 x)))) (zmul (im (sc 40 x)) (re (sc 40 x))) = ⟨0, 0⟩ := by
    unfold zadd zneg zmul; simp only [Zr.mk.injEq]; constructor <;> grind
  rw [n1] at r1
  rw [n2] at r2
  constructor
  · unfold Xr Xi
    rw [mr_zmul2, mr_zmul2, ← mr_zadd, ← r1, ← mr_add, show (1073741824 : Int) = 2 ^ 30 by decide, ← mr_even, ← mr_add]
  · have z : zsm (2 ^ 30) (Xi p) = ⟨0, 0⟩ := by
      unfold Xi
      rw [← mr_even, ← mr_add, show 2 * 30 + 19 = 38 + (1 + 40) by omega, mr_add, r2]
      rfl
    have z1 : (2 ^ 30 : Int) * (Xi p).p = 0 := congrArg Zr.p z
    have z2 : (2 ^ 30 : Int) * (Xi p).q = 0 := congrArg Zr.q z
    exact zr_ext (by show _ = (0 : Int); omega) (by show _ = (0 : Int); omega)
theorem enc_zero {lo hi : Int} (h : Enc ⟨0, 0⟩ lo hi) : lo = 0 ∧ hi = 0 := by
  have a := h.lo_max (m := 0) (by unfold zle; simp [nn])
  have b := h.hi_min (m := 0) (by unfold zge; simp [nn])
  have c := sp_width (u := 1) (by decide) h
  omega
end Amp
