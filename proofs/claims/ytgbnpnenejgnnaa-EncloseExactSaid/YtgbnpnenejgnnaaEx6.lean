import Derived.Test.YtgbnpnenejgnnaaOn5
import Derived.Test.YtgbnpnenejgnnaaGw5
import Derived.Test.YtgbnpnenejgnnaaOp5
import Derived.Test.YtgbnpnenejgnnaaFn5
/-! Rectangles made of bounds hold the bounds of sums, differences and products. For EncloseExact. -/
namespace Encl
open Amp (Zr Enc zadd zneg zmul zsm zle zge)
theorem enc_neg {x : Zr} {a b : Int} (h : Enc x a b) : Enc (zneg x) (-b) (-a) := by
  unfold Amp.Enc Amp.isSp Amp.zneg at *
  rw [Int.neg_neg, Int.neg_neg, Int.neg_neg]
  exact ⟨h.2, h.1⟩
theorem enc_sum {x y : Zr} {a b c d s t : Int} (h : Enc x a b) (g : Enc y c d) (k : Enc (zadd x y) s t) : a + c ≤ s ∧ t ≤ b + d :=
  ⟨k.lo_max (Amp.zle_add h.le g.le), k.hi_min (Amp.zge_add h.ge g.ge)⟩
theorem inR_val' {s t : Sp} (h : inR s = .ok t) : t = s := by
  unfold inR at h
  split at h
  · exact (Out.ok.inj h).symm
  · cases h
theorem fl_le (a b : Int) : fl a b 1073741824 * 1073741824 ≤ a * b := Int.ediv_mul_le _ (by decide)
theorem ce_ge (a b : Int) : a * b ≤ ce a b 1073741824 * 1073741824 := by
  have := Int.ediv_mul_le (-(a * b)) (show (1073741824 : Int) ≠ 0 by decide)
  unfold ce
  omega
/-- The product of two spans holds all corners. -/
theorem mulS_corners {x y s : Sp} (h : mulS x y = .ok s) :
    (s.lo * 1073741824 ≤ x.lo * y.lo ∧ s.lo * 1073741824 ≤ x.lo * y.hi ∧ s.lo * 1073741824 ≤ x.hi * y.lo ∧ s.lo * 1073741824 ≤ x.hi * y.hi) ∧
    (x.lo * y.lo ≤ s.hi * 1073741824 ∧ x.lo * y.hi ≤ s.hi * 1073741824 ∧ x.hi * y.lo ≤ s.hi * 1073741824 ∧ x.hi * y.hi ≤ s.hi * 1073741824) := by
  rw [mulS_eq] at h
  have e := inR_val' h
  have h1 := fl_le x.lo y.lo; have h2 := fl_le x.lo y.hi; have h3 := fl_le x.hi y.lo; have h4 := fl_le x.hi y.hi
  have g1 := ce_ge x.lo y.lo; have g2 := ce_ge x.lo y.hi; have g3 := ce_ge x.hi y.lo; have g4 := ce_ge x.hi y.hi
  have el : s.lo = _ := congrArg Sp.lo e
  have eh : s.hi = _ := congrArg Sp.hi e
  simp only at el eh
  generalize fl x.lo y.lo 1073741824 = f1 at *
  generalize fl x.lo y.hi 1073741824 = f2 at *
  generalize fl x.hi y.lo 1073741824 = f3 at *
  generalize fl x.hi y.hi 1073741824 = f4 at *
  generalize ce x.lo y.lo 1073741824 = c1 at *
  generalize ce x.lo y.hi 1073741824 = c2 at *
  generalize ce x.hi y.lo 1073741824 = c3 at *
  generalize ce x.hi y.hi 1073741824 = c4 at *
  generalize x.lo * y.lo = p1 at *
  generalize x.lo * y.hi = p2 at *
  generalize x.hi * y.lo = p3 at *
  generalize x.hi * y.hi = p4 at *
  omega
theorem zmul_in {x y : Zr} {u v s : Sp} (hx : Enc x u.lo u.hi) (hy : Enc y v.lo v.hi) (h : mulS u v = .ok s) : zle (1073741824 * s.lo) (zmul x y) ∧ zge (1073741824 * s.hi) (zmul x y) := by
  obtain ⟨⟨a1, a2, a3, a4⟩, b1, b2, b3, b4⟩ := mulS_corners h
  exact ⟨Amp.zle_mul hx.le hx.ge hy.le hy.ge (by omega) (by omega) (by omega) (by omega), Amp.zge_mul hx.le hx.ge hy.le hy.ge (by omega) (by omega) (by omega) (by omega)⟩
theorem zge_negz {m : Int} {x : Zr} (h : zge m x) : zle (-m) (zneg x) := Amp.zge_neg.1 h
theorem zle_negz {m : Int} {x : Zr} (h : zle m x) : zge (-m) (zneg x) := Amp.zle_neg.1 h
theorem addR_in {x y r : Rc} {xr xi yr yi : Zr} {s1 t1 s2 t2 : Int} (h : addR x y = .ok r) (h1 : Enc xr x.re.lo x.re.hi) (h2 : Enc xi x.im.lo x.im.hi) (g1 : Enc yr y.re.lo y.re.hi) (g2 : Enc yi y.im.lo y.im.hi) (k1 : Enc (zadd xr yr) s1 t1) (k2 : Enc (zadd xi yi) s2 t2) : InR ⟨⟨s1, t1⟩, ⟨s2, t2⟩⟩ r := by
  unfold addR addS at h
  obtain ⟨p, hp, h⟩ := bind_okI h
  obtain ⟨q, hq, h⟩ := bind_okI h
  obtain rfl := inR_val' hp
  obtain rfl := inR_val' hq
  cases h
  exact ⟨enc_sum h1 g1 k1, enc_sum h2 g2 k2⟩
theorem subR_in {x y r : Rc} {xr xi yr yi : Zr} {s1 t1 s2 t2 : Int} (h : subR x y = .ok r) (h1 : Enc xr x.re.lo x.re.hi) (h2 : Enc xi x.im.lo x.im.hi) (g1 : Enc yr y.re.lo y.re.hi) (g2 : Enc yi y.im.lo y.im.hi) (k1 : Enc (zadd xr (zneg yr)) s1 t1) (k2 : Enc (zadd xi (zneg yi)) s2 t2) : InR ⟨⟨s1, t1⟩, ⟨s2, t2⟩⟩ r := by
  unfold subR subS addS negS at h
  obtain ⟨p, hp, h⟩ := bind_okI h
  obtain ⟨q, hq, h⟩ := bind_okI h
  obtain rfl := inR_val' hp
  obtain rfl := inR_val' hq
  cases h
  exact ⟨enc_sum h1 (enc_neg g1) k1, enc_sum h2 (enc_neg g2) k2⟩
theorem mulR_in {x y r : Rc} {xr xi yr yi zr zi : Zr} {s1 t1 s2 t2 : Int} (h : mulR x y = .ok r) (h1 : Enc xr x.re.lo x.re.hi) (h2 : Enc xi x.im.lo x.im.hi) (g1 : Enc yr y.re.lo y.re.hi) (g2 : Enc yi y.im.lo y.im.hi)
    (e1 : zadd (zmul xr yr) (zneg (zmul xi yi)) = zsm 1073741824 zr) (e2 : zadd (zmul xr yi) (zmul xi yr) = zsm 1073741824 zi) (k1 : Enc zr s1 t1) (k2 : Enc zi s2 t2) : InR ⟨⟨s1, t1⟩, ⟨s2, t2⟩⟩ r := by
  unfold mulR subS addS negS at h
  obtain ⟨a, ha, h⟩ := bind_okI h
  obtain ⟨b, hb, h⟩ := bind_okI h
  obtain ⟨p, hp, h⟩ := bind_okI h
  obtain ⟨c, hc, h⟩ := bind_okI h
  obtain ⟨d, hd, h⟩ := bind_okI h
  obtain ⟨q, hq, h⟩ := bind_okI h
  obtain rfl := inR_val' hp
  obtain rfl := inR_val' hq
  cases h
  obtain ⟨a1, a2⟩ := zmul_in h1 g1 ha
  obtain ⟨b1, b2⟩ := zmul_in h2 g2 hb
  obtain ⟨c1, c2⟩ := zmul_in h1 g2 hc
  obtain ⟨d1, d2⟩ := zmul_in h2 g1 hd
  have l1 := Amp.zle_add a1 (zge_negz b2)
  have u1 := Amp.zge_add a2 (zle_negz b1)
  have l2 := Amp.zle_add c1 d1
  have u2 := Amp.zge_add c2 d2
  rw [e1] at l1 u1
  rw [e2] at l2 u2
  rw [show 1073741824 * a.lo + -(1073741824 * b.hi) = 1073741824 * (a.lo + -b.hi) by omega] at l1
  rw [show 1073741824 * a.hi + -(1073741824 * b.lo) = 1073741824 * (a.hi + -b.lo) by omega] at u1
  rw [show 1073741824 * c.lo + 1073741824 * d.lo = 1073741824 * (c.lo + d.lo) by omega] at l2
  rw [show 1073741824 * c.hi + 1073741824 * d.hi = 1073741824 * (c.hi + d.hi) by omega] at u2
  exact ⟨⟨k1.lo_max (Amp.zle_of_smul (by decide) l1), k1.hi_min (Amp.zge_of_smul (by decide) u1)⟩, ⟨k2.lo_max (Amp.zle_of_smul (by decide) l2), k2.hi_min (Amp.zge_of_smul (by decide) u2)⟩⟩
end Encl

/-! The power of a rectangle holds the bounds of the power. For EncloseExact. -/
namespace Encl
open Amp (Zr Enc zadd zneg zmul zsm zle zge)
theorem zmul_self_nn (x : Zr) : zle 0 (zmul x x) := by
  unfold Amp.zle Amp.zmul
  rw [Int.sub_zero]
  rcases Amp.nn_total x.p x.q with h | h
  · exact Amp.nn_mul h h
  · have := Amp.nn_mul h h
    rwa [show -x.p * -x.p + 2 * (-x.q * -x.q) = x.p * x.p + 2 * (x.q * x.q) by grind, show -x.p * -x.q + -x.q * -x.p = x.p * x.q + x.q * x.p by grind] at this
theorem cross_hi {a b m : Int} (h1 : a * a ≤ m) (h2 : b * b ≤ m) : a * b ≤ m := by
  rcases Int.le_total a b with h | h
  · have : 0 ≤ (b - a) * (b - a) := by rw [← Int.natAbs_mul_self]; omega
    have e : (b - a) * (b - a) = b * b - 2 * (a * b) + a * a := by grind
    omega
  · have : 0 ≤ (a - b) * (a - b) := by rw [← Int.natAbs_mul_self]; omega
    have e : (a - b) * (a - b) = b * b - 2 * (a * b) + a * a := by grind
    omega
theorem cross_lo {a b m : Int} (hs : (0 < a ∧ a ≤ b) ∨ (b < 0 ∧ a ≤ b)) (h1 : m ≤ a * a) (h2 : m ≤ b * b) : m ≤ a * b := by
  rcases hs with ⟨h, g⟩ | ⟨h, g⟩
  · have := Int.mul_le_mul_of_nonneg_left g (Int.le_of_lt h)
    omega
  · have := Int.mul_le_mul_of_nonneg_left (show -b ≤ -a by omega) (show 0 ≤ -b by omega)
    rw [Int.neg_mul_neg, Int.neg_mul_neg, Int.mul_comm b a] at this
    omega
theorem sqS_in {x : Zr} {u s : Sp} (hx : Enc x u.lo u.hi) (ho : u.lo ≤ u.hi) (h : sqS u = .ok s) : zle (1073741824 * s.lo) (zmul x x) ∧ zge (1073741824 * s.hi) (zmul x x) := by
  rw [sqS_eq] at h
  have e := inR_val' h
  have h1 := fl_le u.lo u.lo; have h4 := fl_le u.hi u.hi
  have g1 := ce_ge u.lo u.lo; have g4 := ce_ge u.hi u.hi
  have hi : u.lo * u.lo ≤ 1073741824 * s.hi ∧ u.hi * u.hi ≤ 1073741824 * s.hi := by
    have eh : s.hi = _ := congrArg Sp.hi e
    unfold zlo at eh
    split at eh
    all_goals
      simp only at eh
      generalize ce u.lo u.lo 1073741824 = c1 at *
      generalize ce u.hi u.hi 1073741824 = c4 at *
      omega
  have hc := cross_hi hi.1 hi.2
  refine ⟨?_, Amp.zge_mul hx.le hx.ge hx.le hx.ge hi.1 hc (by rw [Int.mul_comm]; exact hc) hi.2⟩
  have el : s.lo = _ := congrArg Sp.lo e
  unfold zlo at el
  split at el
  · simp only at el
    rw [el, Int.mul_zero]
    exact zmul_self_nn x
  · next hn =>
    simp only at el
    have lo : 1073741824 * s.lo ≤ u.lo * u.lo ∧ 1073741824 * s.lo ≤ u.hi * u.hi := by
      generalize fl u.lo u.lo 1073741824 = f1 at *
      generalize fl u.hi u.hi 1073741824 = f4 at *
      omega
    have hl := cross_lo (show (0 < u.lo ∧ u.lo ≤ u.hi) ∨ (u.hi < 0 ∧ u.lo ≤ u.hi) by omega) lo.1 lo.2
    exact Amp.zle_mul hx.le hx.ge hx.le hx.ge lo.1 hl (by rw [Int.mul_comm u.hi]; exact hl) lo.2
theorem powR_in {x : Rc} {r : Sp} {xr xi zr : Zr} {s t : Int} (h : powR x = .ok r) (o1 : x.re.lo ≤ x.re.hi) (o2 : x.im.lo ≤ x.im.hi) (h1 : Enc xr x.re.lo x.re.hi) (h2 : Enc xi x.im.lo x.im.hi) (e : zadd (zmul xr xr) (zmul xi xi) = zsm 1073741824 zr) (k : Enc zr s t) : InS ⟨s, t⟩ r := by
  unfold powR addS at h
  obtain ⟨a, ha, h⟩ := bind_okI h
  obtain ⟨b, hb, h⟩ := bind_okI h
  obtain rfl := inR_val' h
  obtain ⟨a1, a2⟩ := sqS_in h1 o1 ha
  obtain ⟨b1, b2⟩ := sqS_in h2 o2 hb
  have l := Amp.zle_add a1 b1
  have u := Amp.zge_add a2 b2
  rw [e] at l u
  rw [← Int.mul_add] at l u
  exact ⟨k.lo_max (Amp.zle_of_smul (by decide) l), k.hi_min (Amp.zge_of_smul (by decide) u)⟩
end Encl

/-! What EncloseExact says of sums, differences, products and powers. -/
namespace Encl
open Amp (Nm isBnd vld)
theorem bnd_ok {z : Nm} {rl rh il ih : Int} (h : isBnd z 30 rl rh il ih 0) : vld z = true := by
  by_cases hv : vld z = true
  · exact hv
  · unfold Amp.isBnd at h
    rw [if_neg hv] at h
    omega
theorem exact_add {x y z : Nm} {a1 a2 b1 b2 c1 c2 d1 d2 s1 s2 t1 t2 : Int} {r : Rc} (hx : isBnd x 30 a1 a2 b1 b2 0) (hy : isBnd y 30 c1 c2 d1 d2 0) (hz : isBnd z 30 s1 s2 t1 t2 0) (h : Amp.addS x y = (z, 0))
    (hr : addR ⟨⟨a1, a2⟩, ⟨b1, b2⟩⟩ ⟨⟨c1, c2⟩, ⟨d1, d2⟩⟩ = .ok r) (ho : okR ⟨⟨s1, s2⟩, ⟨t1, t2⟩⟩ = true) : (insideS ⟨⟨s1, s2⟩, ⟨t1, t2⟩⟩ r).1 = true := by
  obtain ⟨e1, e2⟩ := Amp.enc_of_bnd (bnd_ok hx) hx
  obtain ⟨f1, f2⟩ := Amp.enc_of_bnd (bnd_ok hy) hy
  obtain ⟨g1, g2⟩ := Amp.enc_of_bnd (bnd_ok hz) hz
  obtain ⟨q1, q2⟩ := Amp.X_add h
  rw [q1] at g1
  rw [q2] at g2
  exact (inside_iff _ _).2 ⟨ho, addR_ok hr, addR_in hr e1 e2 f1 f2 g1 g2⟩
theorem exact_sub {x y z : Nm} {a1 a2 b1 b2 c1 c2 d1 d2 s1 s2 t1 t2 : Int} {r : Rc} (hx : isBnd x 30 a1 a2 b1 b2 0) (hy : isBnd y 30 c1 c2 d1 d2 0) (hz : isBnd z 30 s1 s2 t1 t2 0) (h : Amp.subS x y = (z, 0))
    (hr : subR ⟨⟨a1, a2⟩, ⟨b1, b2⟩⟩ ⟨⟨c1, c2⟩, ⟨d1, d2⟩⟩ = .ok r) (ho : okR ⟨⟨s1, s2⟩, ⟨t1, t2⟩⟩ = true) : (insideS ⟨⟨s1, s2⟩, ⟨t1, t2⟩⟩ r).1 = true := by
  obtain ⟨e1, e2⟩ := Amp.enc_of_bnd (bnd_ok hx) hx
  obtain ⟨f1, f2⟩ := Amp.enc_of_bnd (bnd_ok hy) hy
  obtain ⟨g1, g2⟩ := Amp.enc_of_bnd (bnd_ok hz) hz
  obtain ⟨q1, q2⟩ := Amp.X_sub h
  rw [q1] at g1
  rw [q2] at g2
  exact (inside_iff _ _).2 ⟨ho, subR_ok hr, subR_in hr e1 e2 f1 f2 g1 g2⟩
theorem exact_mul {x y z : Nm} {a1 a2 b1 b2 c1 c2 d1 d2 s1 s2 t1 t2 : Int} {r : Rc} (hx : isBnd x 30 a1 a2 b1 b2 0) (hy : isBnd y 30 c1 c2 d1 d2 0) (hz : isBnd z 30 s1 s2 t1 t2 0) (h : Amp.mulS x y = (z, 0))
    (hr : mulR ⟨⟨a1, a2⟩, ⟨b1, b2⟩⟩ ⟨⟨c1, c2⟩, ⟨d1, d2⟩⟩ = .ok r) (ho : okR ⟨⟨s1, s2⟩, ⟨t1, t2⟩⟩ = true) : (insideS ⟨⟨s1, s2⟩, ⟨t1, t2⟩⟩ r).1 = true := by
  obtain ⟨e1, e2⟩ := Amp.enc_of_bnd (bnd_ok hx) hx
  obtain ⟨f1, f2⟩ := Amp.enc_of_bnd (bnd_ok hy) hy
  obtain ⟨g1, g2⟩ := Amp.enc_of_bnd (bnd_ok hz) hz
  obtain ⟨q1, q2⟩ := Amp.X_mul h
  exact (inside_iff _ _).2 ⟨ho, mulR_ok hr, mulR_in hr e1 e2 f1 f2 q1 q2 g1 g2⟩
theorem exact_pow {x z : Nm} {a1 a2 b1 b2 s1 s2 t1 t2 : Int} {r : Sp} (hx : isBnd x 30 a1 a2 b1 b2 0) (hz : isBnd z 30 s1 s2 t1 t2 0) (h : Amp.powS x = (z, 0)) (hox : okR ⟨⟨a1, a2⟩, ⟨b1, b2⟩⟩ = true)
    (hr : powR ⟨⟨a1, a2⟩, ⟨b1, b2⟩⟩ = .ok r) (ho : okR ⟨⟨s1, s2⟩, ⟨t1, t2⟩⟩ = true) : (insideS ⟨⟨s1, s2⟩, ⟨t1, t2⟩⟩ ⟨r, ⟨0, 0⟩⟩).1 = true := by
  obtain ⟨e1, e2⟩ := Amp.enc_of_bnd (bnd_ok hx) hx
  obtain ⟨g1, g2⟩ := Amp.enc_of_bnd (bnd_ok hz) hz
  obtain ⟨q1, q2⟩ := Amp.X_pow h
  rw [q2] at g2
  obtain ⟨z1, z2⟩ := Amp.enc_zero g2
  obtain ⟨o1, o2⟩ := (okR_iff _).1 hox
  have hi := powR_in hr ((okS_iff _).1 o1).2.1 ((okS_iff _).1 o2).2.1 e1 e2 q1 g1
  subst z1; subst z2
  exact (inside_iff _ _).2 ⟨ho, (okR_iff _).2 ⟨powR_ok hr, (by decide : okS ⟨0, 0⟩ = true)⟩, hi, Int.le_refl _, Int.le_refl _⟩
end Encl
