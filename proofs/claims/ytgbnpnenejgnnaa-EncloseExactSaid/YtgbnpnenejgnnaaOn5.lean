import Derived.Test.YtgbnpnenejgnnaaBl
import Derived.Test.YtgbnpnenejgnnaaVal
/-! Order of p + q r, r the root of 2: products, and what lies between whole numbers. For EncloseExact. -/
namespace Amp
theorem nn_smul {n p q : Int} (hn : 0 ≤ n) (h : nn p q) : nn (n * p) (n * q) := by
  obtain ⟨k, rfl⟩ := Int.eq_ofNat_of_zero_le hn
  induction k with
  | zero => simp [nn]
  | succ k ih =>
    have := nn_add (ih (by omega)) h
    rw [show ((k + 1 : Nat) : Int) * p = (k : Int) * p + p by rw [Int.natCast_add, Int.add_mul]; simp, show ((k + 1 : Nat) : Int) * q = (k : Int) * q + q by rw [Int.natCast_add, Int.add_mul]; simp]
    exact this
/-- A factor without a minus. -/
theorem nn_mulA {p q p' q' : Int} (h0 : 0 ≤ p) (h1 : 0 ≤ q) (h : nn p' q') : nn (p * p' + 2 * (q * q')) (p * q' + q * p') := by
  have a := nn_smul h0 h
  have b := nn_smul h1 (nn_r h)
  have c := nn_add a b
  rwa [show q * (2 * q') = 2 * (q * q') by grind] at c
theorem nn_zero : nn 0 0 := Or.inl ⟨Int.le_refl _, Int.le_refl _⟩
theorem nn_neg_of_not {p q : Int} (h : ¬ nn p q) : nn (-p) (-q) := (nn_total p q).resolve_left h
theorem smul_zero_cases {n p q : Int} (h1 : n * p = 0) (h2 : n * q = 0) : n = 0 ∨ (p = 0 ∧ q = 0) := by
  by_cases hn : n = 0
  · exact .inl hn
  · exact .inr ⟨(Int.mul_eq_zero.1 h1).resolve_left hn, (Int.mul_eq_zero.1 h2).resolve_left hn⟩
/-- Products of what is not below 0 are not below 0. -/
theorem nn_mul {p q p' q' : Int} (h : nn p q) (g : nn p' q') : nn (p * p' + 2 * (q * q')) (p * q' + q * p') := by
  rcases h with ⟨h0, h1⟩ | ⟨h0, h1, h2⟩ | ⟨h0, h1, h2⟩
  · exact nn_mulA h0 h1 g
  · -- the conjugate has no minus
    apply Classical.byContradiction
    intro hn
    have a := nn_mulA (p := p) (q := -q) h0 (by omega) (nn_neg_of_not hn)
    have b := nn_smul (n := p * p - 2 * (q * q)) (by omega) g
    have e1 : p * -(p * p' + 2 * (q * q')) + 2 * (-q * -(p * q' + q * p')) = -((p * p - 2 * (q * q)) * p') := by grind
    have e2 : p * -(p * q' + q * p') + -q * -(p * p' + 2 * (q * q')) = -((p * p - 2 * (q * q)) * q') := by grind
    rw [e1, e2] at a
    obtain ⟨z1, z2⟩ := nn_antisymm b a
    rcases smul_zero_cases z1 z2 with hz | ⟨rfl, rfl⟩
    · obtain ⟨rfl, rfl⟩ := irrI (show p * p = 2 * (q * q) by omega)
      exact hn (by simp [nn])
    · exact hn (by simp [nn])
  · apply Classical.byContradiction
    intro hn
    have a := nn_mulA (p := -p) (q := q) (by omega) h1 (nn_neg_of_not hn)
    have b := nn_smul (n := 2 * (q * q) - p * p) (by omega) g
    have e1 : -p * -(p * p' + 2 * (q * q')) + 2 * (q * -(p * q' + q * p')) = -((2 * (q * q) - p * p) * p') := by grind
    have e2 : -p * -(p * q' + q * p') + q * -(p * p' + 2 * (q * q')) = -((2 * (q * q) - p * p) * q') := by grind
    rw [e1, e2] at a
    obtain ⟨z1, z2⟩ := nn_antisymm b a
    rcases smul_zero_cases z1 z2 with hz | ⟨rfl, rfl⟩
    · obtain ⟨rfl, rfl⟩ := irrI (show p * p = 2 * (q * q) by omega)
      exact hn (by simp [nn])
    · exact hn (by simp [nn])
/-- A whole positive factor may be struck. -/
theorem nn_of_smul {n p q : Int} (hn : 0 < n) (h : nn (n * p) (n * q)) : nn p q := by
  apply Classical.byContradiction
  intro hx
  have a := nn_smul (Int.le_of_lt hn) (nn_neg_of_not hx)
  rw [Int.mul_neg, Int.mul_neg] at a
  obtain ⟨z1, z2⟩ := nn_antisymm h a
  rcases smul_zero_cases z1 z2 with hz | ⟨rfl, rfl⟩
  · omega
  · exact hx nn_zero
/-- A number p + q r. -/
structure Zr where
  p : Int
  q : Int
def zle (m : Int) (x : Zr) : Prop := nn (x.p - m) x.q
def zge (m : Int) (x : Zr) : Prop := nn (m - x.p) (-x.q)
def zadd (x y : Zr) : Zr := ⟨x.p + y.p, x.q + y.q⟩
def zneg (x : Zr) : Zr := ⟨-x.p, -x.q⟩
def zmul (x y : Zr) : Zr := ⟨x.p * y.p + 2 * (x.q * y.q), x.p * y.q + x.q * y.p⟩
def zsm (n : Int) (x : Zr) : Zr := ⟨n * x.p, n * x.q⟩
theorem zle_add {a b : Int} {x y : Zr} (h : zle a x) (g : zle b y) : zle (a + b) (zadd x y) := by
  have := nn_add h g
  unfold zle zadd
  rwa [show x.p + y.p - (a + b) = x.p - a + (y.p - b) by omega]
theorem zge_neg {m : Int} {x : Zr} : zge m x ↔ zle (-m) (zneg x) := by
  unfold zge zle zneg
  rw [show m - x.p = -x.p - -m by omega]
theorem zle_neg {m : Int} {x : Zr} : zle m x ↔ zge (-m) (zneg x) := by
  unfold zge zle zneg
  simp only
  rw [show -m - -x.p = x.p - m by omega, Int.neg_neg]
theorem zge_add {a b : Int} {x y : Zr} (h : zge a x) (g : zge b y) : zge (a + b) (zadd x y) := by
  have := nn_add h g
  unfold zge zadd
  rwa [show a + b - (x.p + y.p) = a - x.p + (b - y.p) by omega, Int.neg_add]
theorem zle_mono {m n : Int} {x : Zr} (h : zle m x) (hn : n ≤ m) : zle n x := nn_mono h (by omega)
/-- u y, u whole, y between c and d. -/
theorem zle_lin {u m c d : Int} {y : Zr} (hc : zle c y) (hd : zge d y) (h1 : m ≤ u * c) (h2 : m ≤ u * d) : zle m (zsm u y) := by
  by_cases hu : 0 ≤ u
  · have := nn_smul hu hc
    refine zle_mono (m := u * c) ?_ h1
    unfold zle zsm
    rwa [Int.mul_sub] at this
  · have := nn_smul (n := -u) (by omega) hd
    refine zle_mono (m := u * d) ?_ h2
    unfold zle zsm
    rwa [show -u * (d - y.p) = u * y.p - u * d by grind, show -u * -y.q = u * y.q by grind] at this
/-- x y from below by its corners. -/
theorem zle_mul {a b c d m : Int} {x y : Zr} (ha : zle a x) (hb : zge b x) (hc : zle c y) (hd : zge d y) (h1 : m ≤ a * c) (h2 : m ≤ a * d) (h3 : m ≤ b * c) (h4 : m ≤ b * d) : zle m (zmul x y) := by
  rcases nn_total y.p y.q with hy | hy
  · have l := zle_lin (u := a) hc hd h1 h2
    have g := nn_mul ha hy
    have := nn_add l g
    unfold zle zmul
    unfold zsm at this
    rwa [show a * y.p - m + ((x.p - a) * y.p + 2 * (x.q * y.q)) = x.p * y.p + 2 * (x.q * y.q) - m by grind, show a * y.q + ((x.p - a) * y.q + x.q * y.p) = x.p * y.q + x.q * y.p by grind] at this
  · have l := zle_lin (u := b) hc hd h3 h4
    have g := nn_mul hb hy
    have := nn_add l g
    unfold zle zmul
    unfold zsm at this
    rwa [show b * y.p - m + ((b - x.p) * -y.p + 2 * (-x.q * -y.q)) = x.p * y.p + 2 * (x.q * y.q) - m by grind, show b * y.q + ((b - x.p) * -y.q + -x.q * -y.p) = x.p * y.q + x.q * y.p by grind] at this
theorem zmul_neg (x y : Zr) : zneg (zmul x y) = zmul x (zneg y) := by
  unfold zneg zmul
  simp only [Zr.mk.injEq]
  constructor <;> grind
/-- x y from above by its corners. -/
theorem zge_mul {a b c d m : Int} {x y : Zr} (ha : zle a x) (hb : zge b x) (hc : zle c y) (hd : zge d y) (h1 : a * c ≤ m) (h2 : a * d ≤ m) (h3 : b * c ≤ m) (h4 : b * d ≤ m) : zge m (zmul x y) := by
  rw [zge_neg, zmul_neg]
  refine zle_mul ha hb (zge_neg.1 hd) (zle_neg.1 hc) ?_ ?_ ?_ ?_ <;> rw [Int.mul_neg] <;> omega
/-- lo is x rounded down, hi rounded up. -/
def Enc (x : Zr) (lo hi : Int) : Prop := isSp x.p x.q 1 lo hi
theorem Enc.le {x : Zr} {lo hi : Int} (h : Enc x lo hi) : zle lo x := by have := h.1.1; rwa [Int.mul_one] at this
theorem Enc.ge {x : Zr} {lo hi : Int} (h : Enc x lo hi) : zge hi x := by
  have := h.2.1
  rw [Int.mul_one] at this
  unfold zge
  rwa [show hi - x.p = -x.p - -hi by omega]
theorem Enc.lo_max {x : Zr} {lo hi m : Int} (h : Enc x lo hi) (g : zle m x) : m ≤ lo := flu_le (u := 1) (by decide) (by rw [Int.mul_one]; exact g) h.1
theorem Enc.hi_min {x : Zr} {lo hi m : Int} (h : Enc x lo hi) (g : zge m x) : hi ≤ m := by
  have := flu_le (u := 1) (p := -x.p) (q := -x.q) (f := -m) (by decide) (by rw [Int.mul_one]; have g2 := zge_neg.1 g; exact g2) h.2
  omega
theorem zle_of_smul {n m : Int} {x : Zr} (hn : 0 < n) (h : zle (n * m) (zsm n x)) : zle m x := nn_of_smul hn (by unfold zle zsm at h; rwa [Int.mul_sub])
theorem zge_of_smul {n m : Int} {x : Zr} (hn : 0 < n) (h : zge (n * m) (zsm n x)) : zge m x := nn_of_smul hn (by unfold zge zsm at h; rwa [Int.mul_sub, Int.mul_neg])
end Amp

/-! The parts of a number times 2^30 as p + q r. For EncloseExact. -/
namespace Amp
def mr : Nat → Zr → Zr
  | 0, x => x
  | n + 1, x => mr n ⟨2 * x.q, x.p⟩
theorem mr_succ (n : Nat) (x : Zr) : mr (n + 1) x = ⟨2 * (mr n x).q, (mr n x).p⟩ := by
  induction n generalizing x with
  | zero => rfl
  | succ n ih => exact ih _
theorem mr_add (m n : Nat) (x : Zr) : mr (m + n) x = mr m (mr n x) := by
  induction m with
  | zero => rw [Nat.zero_add]; rfl
  | succ m ih => rw [Nat.succ_add, mr_succ, mr_succ, ih]
theorem mr_zadd (n : Nat) (x y : Zr) : mr n (zadd x y) = zadd (mr n x) (mr n y) := by
  induction n with
  | zero => rfl
  | succ n ih => rw [mr_succ, mr_succ, mr_succ, ih]; unfold zadd; simp only [Zr.mk.injEq]; exact ⟨by omega, trivial⟩
theorem mr_zneg (n : Nat) (x : Zr) : mr n (zneg x) = zneg (mr n x) := by
  induction n with
  | zero => rfl
  | succ n ih => rw [mr_succ, mr_succ, ih]; unfold zneg; simp only [Zr.mk.injEq]; exact ⟨by omega, trivial⟩
theorem mr_zmul (n : Nat) (x y : Zr) : zmul (mr n x) y = mr n (zmul x y) := by
  induction n with
  | zero => rfl
  | succ n ih => rw [mr_succ, mr_succ, ← ih]; unfold zmul; simp only [Zr.mk.injEq]; constructor <;> grind
theorem zmul_comm (x y : Zr) : zmul x y = zmul y x := by unfold zmul; simp only [Zr.mk.injEq]; constructor <;> grind
theorem mr_zmul2 (m n : Nat) (x y : Zr) : zmul (mr m x) (mr n y) = mr (m + n) (zmul x y) := by
  rw [mr_zmul, zmul_comm, mr_zmul, mr_add, zmul_comm]
theorem mr_even (n : Nat) (x : Zr) : mr (2 * n) x = zsm (2 ^ n) x := by
  induction n with
  | zero => unfold zsm; simp [mr]
  | succ n ih =>
    rw [show 2 * (n + 1) = 2 * n + 1 + 1 by omega, mr_succ, mr_succ, ih]
    unfold zsm
    simp only [Zr.mk.injEq]
    rw [Int.pow_succ]
    constructor <;> grind
theorem nr_mr (p q : Int) : ∀ n : Nat, nrP p q n = (mr n ⟨p, q⟩).p ∧ nrQ p q n = (mr n ⟨p, q⟩).q
  | 0 => ⟨(nr_zero p q).1, (nr_zero p q).2.1⟩
  | 1 => ⟨(nr_one p q).1, (nr_one p q).2.1⟩
  | n + 2 => by
    obtain ⟨h1, h2, _⟩ := nr_down p q (e := ((n + 2 : Nat) : Int)) (by omega)
    rw [show ((n + 2 : Nat) : Int) - 2 = (n : Int) by omega] at h1 h2
    obtain ⟨i1, i2⟩ := nr_mr (2 * p) (2 * q) n
    exact ⟨h1.symm.trans i1, h2.symm.trans i2⟩
def re (x : C4) : Zr := ⟨x.b - x.d, x.a⟩
def im (x : C4) : Zr := ⟨x.b + x.d, x.c⟩
theorem re_trn (n : Nat) (x : C4) : re (trn n x) = mr n (re x) := by
  induction n with
  | zero => rfl
  | succ n ih => rw [trn_succ, mr_succ, ← ih]; unfold re tr; simp only [Zr.mk.injEq]; exact ⟨by omega, trivial⟩
theorem im_trn (n : Nat) (x : C4) : im (trn n x) = mr n (im x) := by
  induction n with
  | zero => rfl
  | succ n ih => rw [trn_succ, mr_succ, ← ih]; unfold im tr; simp only [Zr.mk.injEq]; exact ⟨by omega, trivial⟩
theorem re_add (x y : C4) : re (add x y) = zadd (re x) (re y) := by unfold re add zadd; simp only [Zr.mk.injEq]; exact ⟨by omega, trivial⟩
theorem im_add (x y : C4) : im (add x y) = zadd (im x) (im y) := by unfold im add zadd; simp only [Zr.mk.injEq]; exact ⟨by omega, trivial⟩
theorem re_mul (x y : C4) : mr 1 (re (mul x y)) = zadd (zmul (re x) (re y)) (zneg (zmul (im x) (im y))) := by
  unfold re im mul zadd zmul zneg mr mr
  simp only [Zr.mk.injEq]
  constructor <;> grind
theorem im_mul (x y : C4) : mr 1 (im (mul x y)) = zadd (zmul (re x) (im y)) (zmul (im x) (re y)) := by
  unfold re im mul zadd zmul mr mr
  simp only [Zr.mk.injEq]
  constructor <;> grind
/-- Both parts of a number, times 2^30. -/
def Xr (z : Nm) : Zr := mr 19 (re (sc 40 z))
def Xi (z : Nm) : Zr := mr 19 (im (sc 40 z))
theorem enc_of_bd {p q lo hi : Int} {k : Nat} (hk : k ≤ 40) (h : isBd p q (59 - (k : Int)) lo hi) : Enc (mr 19 (mr (40 - k) ⟨p, q⟩)) lo hi := by
  rw [← mr_add, show 19 + (40 - k) = 59 - k by omega]
  rw [show (59 : Int) - (k : Int) = ((59 - k : Nat) : Int) by omega] at h
  obtain ⟨h1, h2⟩ := nr_mr p q (59 - k)
  have h3 : nrU ((59 - k : Nat) : Int) = 1 := by
    unfold nrU
    rw [show (-(((59 - k : Nat) : Int) / 2)).toNat = 0 by omega]
    rfl
  unfold isBd at h
  rw [h1, h2, h3] at h
  exact h
theorem enc_of_bnd {z : Nm} {rl rh il ih : Int} (hv : vld z = true) (h : isBnd z 30 rl rh il ih 0) : Enc (Xr z) rl rh ∧ Enc (Xi z) il ih := by
  unfold isBnd at h
  rw [if_pos hv, if_pos (by decide)] at h
  have hk := vld_k hv
  have e : (2 * 30 - z.k - 1 : Int) = 59 - (z.k.toNat : Int) := by omega
  rw [e] at h
  unfold Xr Xi sc
  rw [re_trn, im_trn]
  exact ⟨enc_of_bd (by omega) h.2.1, enc_of_bd (by omega) h.2.2⟩
theorem X_add {x y s : Nm} (h : addS x y = (s, 0)) : Xr s = zadd (Xr x) (Xr y) ∧ Xi s = zadd (Xi x) (Xi y) := by
  obtain ⟨hx, hy, hs, hh⟩ := addS_zero h
  have kx := vld_k hx; have ky := vld_k hy; have ks := vld_k hs
  have e := hh 40 (by omega) (by omega) (by omega)
  unfold Xr Xi
  rw [e, re_add, im_add, mr_zadd, mr_zadd]
  exact ⟨rfl, rfl⟩
theorem X_mul {x y s : Nm} (h : mulS x y = (s, 0)) : zadd (zmul (Xr x) (Xr y)) (zneg (zmul (Xi x) (Xi y))) = zsm 1073741824 (Xr s) ∧ zadd (zmul (Xr x) (Xi y)) (zmul (Xi x) (Xr y)) = zsm 1073741824 (Xi s) := by
  obtain ⟨hx, hy, hs, hh⟩ := mulS_zero h
  have kx := vld_k hx; have ky := vld_k hy; have ks := vld_k hs
  have e := hh 40 (by omega) (by omega) (by omega)
  have e2 : sc (40 + 40) s = trn 40 (sc 40 s) := by
    unfold sc
    rw [← trn_add, show 40 + 40 - s.k.toNat = 40 + (40 - s.k.toNat) by omega]
  rw [e2] at e
  have r1 := re_mul (sc 40 x) (sc 40 y)
  have r2 := im_mul (sc 40 x) (sc 40 y)
  rw [← e, re_trn, ← mr_add] at r1
  rw [← e, im_trn, ← mr_add] at r2
  unfold Xr Xi
  rw [mr_zmul2, mr_zmul2, mr_zmul2, mr_zmul2, ← mr_zneg, ← mr_zadd, ← mr_zadd, ← r1, ← r2, ← mr_add, ← mr_add, show (1073741824 : Int) = 2 ^ 30 by decide, ← mr_even, ← mr_even, ← mr_add, ← mr_add]
  exact ⟨rfl, rfl⟩
theorem subS_zero {x y s : Nm} (h : subS x y = (s, 0)) : vld x = true ∧ vld y = true ∧ vld s = true ∧ ∀ N, x.k.toNat ≤ N → y.k.toNat ≤ N → s.k.toNat ≤ N → sc N s = add (sc N x) (smul (-1) (sc N y)) := by
  unfold subS at h
  split at h
  · next hv =>
    rw [Bool.and_eq_true] at hv
    obtain ⟨h1, h2⟩ := made_zero h
    refine ⟨hv.1, hv.2, h1, fun N hx hy hs => ?_⟩
    rw [eqv_iff N hs (by unfold comb; simp only; omega), comb_sc N x y (-1) hx hy] at h2
    exact h2
  · simp at h
theorem re_minus (x : C4) : re (smul (-1) x) = zneg (re x) := by unfold re smul zneg; simp only [Zr.mk.injEq]; constructor <;> omega
theorem im_minus (x : C4) : im (smul (-1) x) = zneg (im x) := by unfold im smul zneg; simp only [Zr.mk.injEq]; constructor <;> omega
theorem X_sub {x y s : Nm} (h : subS x y = (s, 0)) : Xr s = zadd (Xr x) (zneg (Xr y)) ∧ Xi s = zadd (Xi x) (zneg (Xi y)) := by
  obtain ⟨hx, hy, hs, hh⟩ := subS_zero h
  have kx := vld_k hx; have ky := vld_k hy; have ks := vld_k hs
  have e := hh 40 (by omega) (by omega) (by omega)
  unfold Xr Xi
  rw [e, re_add, im_add, re_minus, im_minus, mr_zadd, mr_zadd, mr_zneg, mr_zneg]
  exact ⟨rfl, rfl⟩
end Amp
