import Derived.Test.YtgbnpnenejgnnaaChecked
import Derived.WalkKit
import Derived.WalkSpells
import Derived.WalkLawsBesides
import Derived.Handy
import Derived.Lib.Hide
import Derived.BigQuiet
import Derived.Deep.QuietTactic
import Derived.Outline
import Derived.OwnWalk
import Derived.Laws.OwnMore
import Derived.IntWalk
import Derived.Deep.RegionHeld3
import Derived.Deep.RegionHeld2
/- Enclosures: what the terms of the document say, over whole numbers. -/
namespace Encl

inductive Out (α : Type) where
  | ok (v : α)
  | bad (k : Int)
deriving DecidableEq
def Out.bind {α β : Type} : Out α → (α → Out β) → Out β
  | .ok v, f => f v
  | .bad k, _ => .bad k
@[simp] theorem Out.bind_ok {α β : Type} (v : α) (f : α → Out β) : (Out.ok v).bind f = f v := rfl
@[simp] theorem Out.bind_bad {α β : Type} (k : Int) (f : α → Out β) : (Out.bad k : Out α).bind f = .bad k := rfl

theorem Out.binds : (∀ {α β : Type} (v : α) (f : α → Out β), (Out.ok v).bind f = f v) ∧ (∀ {α β : Type} (k : Int) (f : α → Out β), (Out.bad k : Out α).bind f = .bad k) := ⟨fun _ _ => rfl, fun _ _ => rfl⟩
structure Sp where
  lo : Int
  hi : Int
deriving DecidableEq
structure Rc where
  re : Sp
  im : Sp
deriving DecidableEq
theorem Sp.ext' {x y : Sp} (h1 : x.lo = y.lo) (h2 : x.hi = y.hi) : x = y := by
  cases x; cases y; simp at h1 h2; simp [h1, h2]
theorem Rc.ext' {x y : Rc} (h1 : x.re = y.re) (h2 : x.im = y.im) : x = y := by
  cases x; cases y; simp at h1 h2; simp [h1, h2]

def S0 : Sp := ⟨0, 0⟩
def R0 : Rc := ⟨S0, S0⟩
def okS (s : Sp) : Bool := decide (-1099511627776 ≤ s.lo) && (decide (s.lo ≤ s.hi) && decide (s.hi ≤ 1099511627776))
def okR (x : Rc) : Bool := okS x.re && okS x.im
theorem okS_iff (s : Sp) : okS s = true ↔ -1099511627776 ≤ s.lo ∧ s.lo ≤ s.hi ∧ s.hi ≤ 1099511627776 := by simp [okS]
theorem okR_iff (x : Rc) : okR x = true ↔ okS x.re = true ∧ okS x.im = true := by simp [okR]
def inR (s : Sp) : Out Sp := if okS s = true then .ok s else .bad 4
theorem inR_ok {s : Sp} (h : okS s = true) : inR s = .ok s := if_pos h
theorem inR_bad {s : Sp} (h : ¬ okS s = true) : inR s = .bad 4 := if_neg h

def fl (a b d : Int) : Int := a * b / d
def ce (a b d : Int) : Int := -(-(a * b) / d)
/-- a * b / d, rounded down and up. -/
def scS (a b d : Int) : Out Sp := inR ⟨fl a b d, ce a b d⟩
theorem fl_le_ce (a b : Int) {d : Int} (h : 0 < d) : fl a b d ≤ ce a b d := by
  unfold fl ce
  generalize a * b = n
  have h1 := Int.mul_ediv_add_emod n d
  have h2 := Int.mul_ediv_add_emod (-n) d
  have h3 := Int.emod_nonneg n (show d ≠ 0 by omega)
  have h4 := Int.emod_nonneg (-n) (show d ≠ 0 by omega)
  apply Classical.byContradiction; intro hc
  have h5 : 1 ≤ n / d + -n / d := by omega
  have h6 := Int.mul_le_mul_of_nonneg_left h5 (show 0 ≤ d by omega)
  rw [Int.mul_add] at h6
  omega

def negS (x : Sp) : Sp := ⟨-x.hi, -x.lo⟩
def addS (x y : Sp) : Out Sp := inR ⟨x.lo + y.lo, x.hi + y.hi⟩
def subS (x y : Sp) : Out Sp := addS x (negS y)
def hul (s x : Sp) : Sp := ⟨min s.lo x.lo, max s.hi x.hi⟩
def four (a b c d : Out Sp) : Out Sp := a.bind fun a => b.bind fun b => c.bind fun c => d.bind fun d => .ok (hul (hul (hul a b) c) d)
def mulS (x y : Sp) : Out Sp := four (scS x.lo y.lo 1073741824) (scS x.lo y.hi 1073741824) (scS x.hi y.lo 1073741824) (scS x.hi y.hi 1073741824)
def divS (x y : Sp) : Out Sp := four (scS x.lo 1073741824 y.lo) (scS x.lo 1073741824 y.hi) (scS x.hi 1073741824 y.lo) (scS x.hi 1073741824 y.hi)
def zlo (x s : Sp) : Sp := if x.lo ≤ 0 ∧ 0 ≤ x.hi then ⟨0, s.hi⟩ else s
def sqS (x : Sp) : Out Sp := (scS x.lo x.lo 1073741824).bind fun a => (scS x.hi x.hi 1073741824).bind fun b => .ok (zlo x (hul a b))
def halfS (x : Sp) : Sp := ⟨x.lo / 2, -(-x.hi / 2)⟩

/-- The greatest t < 2^k with t * t ≤ n, from t0 on. -/
def rtGo (n : Int) : Nat → Int → Int
  | 0, t => t
  | k + 1, t => if (t + 2 ^ k) * (t + 2 ^ k) ≤ n then rtGo n k (t + 2 ^ k) else rtGo n k t
def rtD (n : Int) : Int := rtGo n 37 0
def rtU (n : Int) : Int := if rtD n * rtD n < n then rtD n + 1 else rtD n
def rootS (x : Sp) : Sp := ⟨rtD (x.lo * 1073741824), rtU (x.hi * 1073741824)⟩

def addR (x y : Rc) : Out Rc := (addS x.re y.re).bind fun a => (addS x.im y.im).bind fun b => .ok ⟨a, b⟩
def subR (x y : Rc) : Out Rc := (subS x.re y.re).bind fun a => (subS x.im y.im).bind fun b => .ok ⟨a, b⟩
def mulR (x y : Rc) : Out Rc := (mulS x.re y.re).bind fun a => (mulS x.im y.im).bind fun b => (subS a b).bind fun re => (mulS x.re y.im).bind fun c => (mulS x.im y.re).bind fun d => (addS c d).bind fun im => .ok ⟨re, im⟩
def powR (x : Rc) : Out Sp := (sqS x.re).bind fun a => (sqS x.im).bind fun b => addS a b
def cjR (x : Rc) : Rc := ⟨x.re, negS x.im⟩
def divR (x y : Rc) : Out Rc := (powR y).bind fun p => if p.lo ≤ 0 then .bad 51 else (mulR x (cjR y)).bind fun z => (divS z.re p).bind fun a => (divS z.im p).bind fun b => .ok ⟨a, b⟩

/-! ### Roots -/
theorem sqle {x y : Int} (hx : 0 ≤ x) (h : x ≤ y) : x * x ≤ y * y := Int.mul_le_mul h h hx (by omega)
theorem sqlt {x y : Int} (hx : 0 ≤ y) (h : x * x < y * y) : x < y := by
  apply Classical.byContradiction; intro hn
  have := sqle hx (show y ≤ x by omega)
  omega
theorem rtGo_spec (n : Int) : ∀ (k : Nat) (t : Int), 0 ≤ t → t * t ≤ n → n < (t + 2 ^ k) * (t + 2 ^ k) → 0 ≤ rtGo n k t ∧ rtGo n k t * rtGo n k t ≤ n ∧ n < (rtGo n k t + 1) * (rtGo n k t + 1) ∧ rtGo n k t < t + 2 ^ k := by
  intro k
  induction k with
  | zero => intro t h0 h1 h2; simp only [rtGo]; simp at h2; exact ⟨h0, h1, h2, by simp; omega⟩
  | succ k ih =>
    intro t h0 h1 h2
    have hp : (0 : Int) < 2 ^ k := Int.pow_pos (by omega)
    have he : (2 : Int) ^ (k + 1) = 2 ^ k + 2 ^ k := by rw [Int.pow_succ]; omega
    simp only [rtGo]
    split
    · next h =>
      obtain ⟨a, b, c, d⟩ := ih (t + 2 ^ k) (by omega) h (by rw [he] at h2; rw [Int.add_assoc]; exact h2)
      exact ⟨a, b, c, by omega⟩
    · next h =>
      obtain ⟨a, b, c, d⟩ := ih t h0 h1 (by omega)
      exact ⟨a, b, c, by omega⟩
/-- t is the root of n, rounded down. -/
def isD (n t : Int) : Prop := 0 ≤ t ∧ t * t ≤ n ∧ n < (t + 1) * (t + 1)
/-- t is the root of n, rounded up. -/
def isU (n t : Int) : Prop := 0 ≤ t ∧ n ≤ t * t ∧ (t = 0 ∨ (t - 1) * (t - 1) < n)
theorem isD_uniq {n s t : Int} (h : isD n s) (g : isD n t) : s = t := by
  obtain ⟨a, b, c⟩ := h
  obtain ⟨d, e, f⟩ := g
  have h1 := sqlt (x := s) (y := t + 1) (by omega) (by omega)
  have h2 := sqlt (x := t) (y := s + 1) (by omega) (by omega)
  omega
theorem isU_uniq {n s t : Int} (h : isU n s) (g : isU n t) : s = t := by
  obtain ⟨a, b, c⟩ := h
  obtain ⟨d, e, f⟩ := g
  have h1 : s ≤ t := by
    rcases c with c | c
    · omega
    · have := sqlt (x := s - 1) (y := t) (by omega) (by omega); omega
  have h2 : t ≤ s := by
    rcases f with c | c
    · omega
    · have := sqlt (x := t - 1) (y := s) (by omega) (by omega); omega
  omega
theorem rtD_is {n : Int} (h0 : 0 ≤ n) (h1 : n < 18889465931478580854784) : isD n (rtD n) := by
  have := rtGo_spec n 37 0 (by omega) (by omega) (by simp; omega)
  exact ⟨this.1, this.2.1, this.2.2.1⟩
theorem rtU_is {n : Int} (h0 : 0 ≤ n) (h1 : n < 18889465931478580854784) : isU n (rtU n) := by
  obtain ⟨a, b, c⟩ := rtD_is h0 h1
  unfold rtU
  split
  · next h => exact ⟨by omega, by omega, .inr (by rw [Int.add_sub_cancel]; exact h)⟩
  · next h =>
    refine ⟨a, by omega, ?_⟩
    by_cases h2 : rtD n = 0
    · exact .inl h2
    · right
      have h3 : rtD n * rtD n = n := by omega
      have h4 : (rtD n - 1) * (rtD n - 1) = rtD n * rtD n - 2 * rtD n + 1 := by grind
      omega
theorem rtD_eq {n t : Int} (h0 : 0 ≤ n) (h1 : n < 18889465931478580854784) (h : isD n t) : t = rtD n := isD_uniq h (rtD_is h0 h1)
theorem rtU_eq {n t : Int} (h0 : 0 ≤ n) (h1 : n < 18889465931478580854784) (h : isU n t) : t = rtU n := isU_uniq h (rtU_is h0 h1)
theorem isD_mono {m n s t : Int} (h : isD m s) (g : isD n t) (hl : m ≤ n) : s ≤ t := by
  have := sqlt (x := s) (y := t + 1) (by have := g.1; omega) (by have := h.2.1; have := g.2.2; omega)
  omega
theorem isU_mono {m n s t : Int} (h : isU m s) (g : isU n t) (hl : m ≤ n) : s ≤ t := by
  rcases h.2.2 with c | c
  · have := g.1; omega
  · have := sqlt (x := s - 1) (y := t) g.1 (by have := g.2.1; omega); omega
theorem isDU {m n s t : Int} (h : isD m s) (g : isU n t) (hl : m ≤ n) : s ≤ t := by
  apply Classical.byContradiction; intro hc
  have h1 := sqle (x := t + 1) (y := s) (by have := g.1; omega) (by omega)
  have h2 : (t + 1) * (t + 1) = t * t + 2 * t + 1 := by grind
  have := h.2.1; have := g.2.1; have := g.1
  omega
theorem rootS_ok {x : Sp} (h : okS x = true) (h0 : 0 ≤ x.lo) : okS (rootS x) = true ∧ 0 ≤ (rootS x).lo ∧ (rootS x).hi ≤ 34359738368 := by
  rw [okS_iff] at h
  have hd := rtD_is (n := x.lo * 1073741824) (by omega) (by omega)
  have hu := rtU_is (n := x.hi * 1073741824) (by omega) (by omega)
  have h1 := isDU hd hu (by omega)
  have h2 : rtU (x.hi * 1073741824) ≤ 34359738368 := by
    rcases hu.2.2 with c | c
    · omega
    · have := sqlt (x := rtU (x.hi * 1073741824) - 1) (y := 34359738368) (by omega) (by omega); omega
  refine ⟨?_, hd.1, h2⟩
  rw [okS_iff]
  exact ⟨by have := hd.1; simp only [rootS]; omega, h1, by simp only [rootS]; omega⟩
end Encl

namespace Encl

theorem fl_lt {a b d k : Int} (h : 0 < d) : fl a b d < k ↔ a * b < k * d := Int.ediv_lt_iff_lt_mul h
theorem le_fl {a b d k : Int} (h : 0 < d) : k ≤ fl a b d ↔ k * d ≤ a * b := Int.le_ediv_iff_mul_le h
theorem ce_le {a b d k : Int} (h : 0 < d) : ce a b d ≤ k ↔ a * b ≤ k * d := by
  unfold ce
  have := Int.le_ediv_iff_mul_le (a := -k) (b := -(a * b)) h
  rw [Int.neg_mul] at this
  constructor
  · intro g; have := this.1 (by omega); omega
  · intro g; have := this.2 (by omega); omega
theorem lt_ce {a b d k : Int} (h : 0 < d) : k < ce a b d ↔ k * d < a * b := by
  have := ce_le (a := a) (b := b) (k := k) h
  omega

/-- A product of absolute values, divided: rounded down and up, with the sign. -/
theorem sc_nat {n d q r : Int} (hd : 0 < d) (h : n = q * d + r) (h0 : 0 ≤ r) (h1 : r < d) : n / d = q ∧ -(-n / d) = (if 0 < r then q + 1 else q) := by
  have e1 : n / d = q := by
    rw [h, Int.add_comm, Int.add_mul_ediv_right _ _ (by omega), Int.ediv_eq_zero_of_lt h0 h1]; omega
  refine ⟨e1, ?_⟩
  split
  · next hr =>
    have : -n = (d - r) + (-(q + 1)) * d := by rw [h]; grind
    rw [this, Int.add_mul_ediv_right _ _ (by omega), Int.ediv_eq_zero_of_lt (by omega) (by omega)]; omega
  · next hr =>
    have : r = 0 := by omega
    have : -n = 0 + (-q) * d := by rw [h]; grind
    rw [this, Int.add_mul_ediv_right _ _ (by omega)]; simp
/-- What the absolute values make, with the sign of the product. -/
def sgn (a b : Int) (s : Sp) : Sp := if (decide (a < 0) != decide (b < 0)) = true then negS s else s
def absI (n : Int) : Int := max n (-n)
theorem sc_abs {a b d q r : Int} (hd : 0 < d) (h : absI a * absI b = q * d + r) (h0 : 0 ≤ r) (h1 : r < d) :
    sgn a b ⟨q, if 0 < r then q + 1 else q⟩ = ⟨fl a b d, ce a b d⟩ := by
  obtain ⟨e1, e2⟩ := sc_nat hd h h0 h1
  unfold sgn
  have ha : absI a = if a < 0 then -a else a := by unfold absI; split <;> omega
  have hb : absI b = if b < 0 then -b else b := by unfold absI; split <;> omega
  rw [ha, hb] at e1 e2
  unfold fl ce negS
  by_cases h1 : a < 0 <;> by_cases h2 : b < 0 <;> simp only [h1, h2, if_true, if_false] at e1 e2 <;> simp [h1, h2] <;> (try rw [Int.neg_mul_neg] at e1 e2) <;> (try rw [Int.neg_mul] at e1 e2) <;> (try rw [Int.mul_neg] at e1 e2) <;> (try rw [Int.neg_neg] at e2) <;> constructor <;> omega

/-- Four results, each in range or not, and the least span of all. -/
theorem four_inR (a b c d : Sp) (ha : a.lo ≤ a.hi) (hb : b.lo ≤ b.hi) (hc : c.lo ≤ c.hi) (hd : d.lo ≤ d.hi) :
    four (inR a) (inR b) (inR c) (inR d) = inR (hul (hul (hul a b) c) d) := by
  by_cases h1 : okS a = true
  · by_cases h2 : okS b = true
    · by_cases h3 : okS c = true
      · by_cases h4 : okS d = true
        · rw [inR_ok h1, inR_ok h2, inR_ok h3, inR_ok h4]
          simp only [four, Out.bind_ok]
          rw [inR_ok]
          rw [okS_iff] at *
          simp only [hul]; omega
        · rw [inR_ok h1, inR_ok h2, inR_ok h3, inR_bad h4]
          simp only [four, Out.bind_ok, Out.bind_bad]
          rw [inR_bad]
          rw [okS_iff] at *
          simp only [hul]; omega
      · rw [inR_ok h1, inR_ok h2, inR_bad h3]
        simp only [four, Out.bind_ok, Out.bind_bad]
        rw [inR_bad]
        rw [okS_iff] at *
        simp only [hul]; omega
    · rw [inR_ok h1, inR_bad h2]
      simp only [four, Out.bind_ok, Out.bind_bad]
      rw [inR_bad]
      rw [okS_iff] at *
      simp only [hul]; omega
  · rw [inR_bad h1]
    simp only [four, Out.bind_bad]
    rw [inR_bad]
    rw [okS_iff] at *
    simp only [hul]; omega
theorem mulS_eq (x y : Sp) : mulS x y = inR ⟨min (min (min (fl x.lo y.lo 1073741824) (fl x.lo y.hi 1073741824)) (fl x.hi y.lo 1073741824)) (fl x.hi y.hi 1073741824), max (max (max (ce x.lo y.lo 1073741824) (ce x.lo y.hi 1073741824)) (ce x.hi y.lo 1073741824)) (ce x.hi y.hi 1073741824)⟩ :=
  four_inR _ _ _ _ (fl_le_ce _ _ (by omega)) (fl_le_ce _ _ (by omega)) (fl_le_ce _ _ (by omega)) (fl_le_ce _ _ (by omega))
theorem divS_eq (x y : Sp) (h : 0 < y.lo) (h2 : y.lo ≤ y.hi) : divS x y = inR ⟨min (min (min (fl x.lo 1073741824 y.lo) (fl x.lo 1073741824 y.hi)) (fl x.hi 1073741824 y.lo)) (fl x.hi 1073741824 y.hi), max (max (max (ce x.lo 1073741824 y.lo) (ce x.lo 1073741824 y.hi)) (ce x.hi 1073741824 y.lo)) (ce x.hi 1073741824 y.hi)⟩ :=
  four_inR _ _ _ _ (fl_le_ce _ _ (by omega)) (fl_le_ce _ _ (by omega)) (fl_le_ce _ _ (by omega)) (fl_le_ce _ _ (by omega))
theorem fl_sq (a : Int) : 0 ≤ fl a a 1073741824 := by
  rw [le_fl (by omega)]
  have : 0 ≤ a * a := by
    by_cases h : 0 ≤ a
    · exact Int.mul_nonneg h h
    · have := Int.mul_nonneg (show 0 ≤ -a by omega) (show 0 ≤ -a by omega); rw [Int.neg_mul_neg] at this; exact this
  omega
theorem sqS_eq (x : Sp) : sqS x = inR (zlo x ⟨min (fl x.lo x.lo 1073741824) (fl x.hi x.hi 1073741824), max (ce x.lo x.lo 1073741824) (ce x.hi x.hi 1073741824)⟩) := by
  have a1 := fl_sq x.lo
  have a2 := fl_sq x.hi
  have a3 := fl_le_ce x.lo x.lo (show (0 : Int) < 1073741824 by omega)
  have a4 := fl_le_ce x.hi x.hi (show (0 : Int) < 1073741824 by omega)
  unfold sqS scS
  generalize fl x.lo x.lo 1073741824 = p at *
  generalize fl x.hi x.hi 1073741824 = q at *
  generalize ce x.lo x.lo 1073741824 = r at *
  generalize ce x.hi x.hi 1073741824 = s at *
  by_cases h1 : okS ⟨p, r⟩ = true
  · by_cases h2 : okS ⟨q, s⟩ = true
    · rw [inR_ok h1, inR_ok h2]
      simp only [Out.bind_ok]
      rw [inR_ok]
      · rfl
      · rw [okS_iff] at *
        simp only at h1 h2
        simp only [zlo]; split <;> simp only <;> omega
    · rw [inR_ok h1, inR_bad h2]
      simp only [Out.bind_ok, Out.bind_bad]
      rw [inR_bad]
      rw [okS_iff] at *
      simp only at h1 h2
      simp only [zlo]; split <;> simp only <;> omega
  · rw [inR_bad h1]
    simp only [Out.bind_bad]
    rw [inR_bad]
    rw [okS_iff] at *
    simp only at h1
    simp only [zlo]; split <;> simp only <;> omega

/-! ### The document's own answers -/
/-- a * b / One out of whole parts and rests. -/
theorem down_eq (a b : Int) : a / 1073741824 * b + (a - a / 1073741824 * 1073741824) * (b / 1073741824) + (a - a / 1073741824 * 1073741824) * (b - b / 1073741824 * 1073741824) / 1073741824 = fl a b 1073741824 := by
  unfold fl
  have h1 : a * b = (a - a / 1073741824 * 1073741824) * (b - b / 1073741824 * 1073741824) + (a / 1073741824 * b + (a - a / 1073741824 * 1073741824) * (b / 1073741824)) * 1073741824 := by grind
  rw [h1, Int.add_mul_ediv_right _ _ (by omega)]
  omega
theorem up_eq (a b d : Int) : -fl (-a) b d = ce a b d := by unfold fl ce; rw [Int.neg_mul]
def far : Int := 35184372088832
/-- a * One / b, rounded down, or far. -/
def odS (a b : Int) : Int := if 2048 < a / b then far else if a / b < -2048 then -far else fl a 1073741824 b
def ouS (a b : Int) : Int := -odS (-a) b
theorem od_cases {a b : Int} (hb : 0 < b) : (okS ⟨fl a 1073741824 b, ce a 1073741824 b⟩ = true → odS a b = fl a 1073741824 b ∧ ouS a b = ce a 1073741824 b) ∧
    (¬ okS ⟨fl a 1073741824 b, ce a 1073741824 b⟩ = true → odS a b ≤ ouS a b ∧ (odS a b < -1099511627776 ∨ 1099511627776 < ouS a b)) := by
  have e1 := fl_le_ce a 1073741824 hb
  have u := up_eq a 1073741824 b
  have l1 := le_fl (a := a) (b := 1073741824) (d := b) (k := -1099511627776) hb
  have l2 := fl_lt (a := a) (b := 1073741824) (d := b) (k := -1099511627776) hb
  have c1 := ce_le (a := a) (b := 1073741824) (d := b) (k := 1099511627776) hb
  have p1 := Int.mul_ediv_add_emod a b
  have p2 := Int.emod_nonneg a (show b ≠ 0 by omega)
  have p3 := Int.emod_lt_of_pos a hb
  have q1 := Int.mul_ediv_add_emod (-a) b
  have q2 := Int.emod_nonneg (-a) (show b ≠ 0 by omega)
  have q3 := Int.emod_lt_of_pos (-a) hb
  have m1 : ∀ k : Int, k ≤ a / b ↔ k * b ≤ a := fun k => Int.le_ediv_iff_mul_le hb
  have m2 : ∀ k : Int, k ≤ -a / b ↔ k * b ≤ -a := fun k => Int.le_ediv_iff_mul_le hb
  have r1 := m1 2049
  have r2 := m1 (-2048)
  have s1 := m2 2049
  have s2 := m2 (-2048)
  rw [okS_iff]
  clear p1 q1 m1 m2
  unfold ouS odS far
  constructor
  · rintro ⟨g1, g2, g3⟩
    simp only at g1 g2 g3
    have := l1.1 g1
    have := c1.1 g3
    rw [if_neg (by omega), if_neg (by omega), if_neg (by omega), if_neg (by omega)]
    exact ⟨rfl, u⟩
  · intro g
    have hg : ¬ -1099511627776 ≤ fl a 1073741824 b ∨ ¬ ce a 1073741824 b ≤ 1099511627776 := by
      simp only at g; omega
    clear g
    by_cases h1 : 2048 < a / b
    · rw [if_pos h1]
      by_cases h2 : 2048 < -a / b
      · exfalso; omega
      · rw [if_neg h2, if_pos (by omega)]; omega
    · rw [if_neg h1]
      by_cases h2 : a / b < -2048
      · rw [if_pos h2]
        by_cases h3 : 2048 < -a / b
        · rw [if_pos h3]; omega
        · rw [if_neg h3, if_neg (by omega)]
          have : fl (-a) 1073741824 b < 35184372088832 := by rw [fl_lt hb]; omega
          omega
      · rw [if_neg h2, if_neg (by omega)]
        by_cases h3 : -a / b < -2048
        · rw [if_pos h3]
          have : fl a 1073741824 b < 35184372088832 := by rw [fl_lt hb]; omega
          omega
        · rw [if_neg h3, u]; omega
theorem divS_far (x y : Sp) (h : 0 < y.lo) (h2 : y.lo ≤ y.hi) : inR ⟨min (min (min (odS x.lo y.lo) (odS x.lo y.hi)) (odS x.hi y.lo)) (odS x.hi y.hi), max (max (max (ouS x.lo y.lo) (ouS x.lo y.hi)) (ouS x.hi y.lo)) (ouS x.hi y.hi)⟩ = divS x y := by
  rw [divS_eq x y h h2]
  have t1 := od_cases (a := x.lo) (b := y.lo) h
  have t2 := od_cases (a := x.lo) (b := y.hi) (by omega)
  have t3 := od_cases (a := x.hi) (b := y.lo) h
  have t4 := od_cases (a := x.hi) (b := y.hi) (by omega)
  have a1 := fl_le_ce x.lo 1073741824 (show 0 < y.lo by omega)
  have a2 := fl_le_ce x.lo 1073741824 (show 0 < y.hi by omega)
  have a3 := fl_le_ce x.hi 1073741824 (show 0 < y.lo by omega)
  have a4 := fl_le_ce x.hi 1073741824 (show 0 < y.hi by omega)
  generalize fl x.lo 1073741824 y.lo = f1 at *
  generalize fl x.lo 1073741824 y.hi = f2 at *
  generalize fl x.hi 1073741824 y.lo = f3 at *
  generalize fl x.hi 1073741824 y.hi = f4 at *
  generalize ce x.lo 1073741824 y.lo = g1 at *
  generalize ce x.lo 1073741824 y.hi = g2 at *
  generalize ce x.hi 1073741824 y.lo = g3 at *
  generalize ce x.hi 1073741824 y.hi = g4 at *
  generalize odS x.lo y.lo = o1 at *
  generalize odS x.lo y.hi = o2 at *
  generalize odS x.hi y.lo = o3 at *
  generalize odS x.hi y.hi = o4 at *
  generalize ouS x.lo y.lo = u1 at *
  generalize ouS x.lo y.hi = u2 at *
  generalize ouS x.hi y.lo = u3 at *
  generalize ouS x.hi y.hi = u4 at *
  by_cases h1 : okS ⟨f1, g1⟩ = true
  · obtain ⟨rfl, rfl⟩ := t1.1 h1
    by_cases h2 : okS ⟨f2, g2⟩ = true
    · obtain ⟨rfl, rfl⟩ := t2.1 h2
      by_cases h3 : okS ⟨f3, g3⟩ = true
      · obtain ⟨rfl, rfl⟩ := t3.1 h3
        by_cases h4 : okS ⟨f4, g4⟩ = true
        · obtain ⟨rfl, rfl⟩ := t4.1 h4
          rfl
        · have := t4.2 h4
          rw [inR_bad (by rw [okS_iff]; simp only; omega), inR_bad (by rw [okS_iff] at *; simp only at *; omega)]
      · have := t3.2 h3
        rw [inR_bad (by rw [okS_iff]; simp only; omega), inR_bad (by rw [okS_iff] at *; simp only at *; omega)]
    · have := t2.2 h2
      rw [inR_bad (by rw [okS_iff]; simp only; omega), inR_bad (by rw [okS_iff] at *; simp only at *; omega)]
  · have := t1.2 h1
    rw [inR_bad (by rw [okS_iff]; simp only; omega), inR_bad (by rw [okS_iff] at *; simp only at *; omega)]

/-- The greatest t < 2^k with t * t < n, from t0 on, or t0. -/
def rlGo (n : Int) : Nat → Int → Int
  | 0, t => t
  | k + 1, t => if (t + 2 ^ k) * (t + 2 ^ k) < n then rlGo n k (t + 2 ^ k) else rlGo n k t
theorem rlGo_spec (n : Int) : ∀ (k : Nat) (t : Int), 0 ≤ t → (t = 0 ∨ t * t < n) → n ≤ (t + 2 ^ k) * (t + 2 ^ k) → 0 ≤ rlGo n k t ∧ (rlGo n k t = 0 ∨ rlGo n k t * rlGo n k t < n) ∧ n ≤ (rlGo n k t + 1) * (rlGo n k t + 1) := by
  intro k
  induction k with
  | zero => intro t h0 h1 h2; simp only [rlGo]; simp at h2; exact ⟨h0, h1, h2⟩
  | succ k ih =>
    intro t h0 h1 h2
    have hp : (0 : Int) < 2 ^ k := Int.pow_pos (by omega)
    have he : (2 : Int) ^ (k + 1) = 2 ^ k + 2 ^ k := by rw [Int.pow_succ]; omega
    simp only [rlGo]
    split
    · next h => exact ih (t + 2 ^ k) (by omega) (.inr h) (by rw [he] at h2; rw [Int.add_assoc]; exact h2)
    · next h => exact ih t h0 h1 (by omega)
theorem rlGo_le (n : Int) : ∀ (k : Nat) (t : Int), t ≤ rlGo n k t ∧ rlGo n k t < t + 2 ^ k := by
  intro k
  induction k with
  | zero => intro t; simp only [rlGo]; simp; omega
  | succ k ih =>
    intro t
    have hp : (0 : Int) < 2 ^ k := Int.pow_pos (by omega)
    have he : (2 : Int) ^ (k + 1) = 2 ^ k + 2 ^ k := by rw [Int.pow_succ]; omega
    simp only [rlGo]
    split
    · have := ih (t + 2 ^ k); omega
    · have := ih t; omega
theorem rtGo_le (n : Int) : ∀ (k : Nat) (t : Int), t ≤ rtGo n k t ∧ rtGo n k t < t + 2 ^ k := by
  intro k
  induction k with
  | zero => intro t; simp only [rtGo]; simp; omega
  | succ k ih =>
    intro t
    have hp : (0 : Int) < 2 ^ k := Int.pow_pos (by omega)
    have he : (2 : Int) ^ (k + 1) = 2 ^ k + 2 ^ k := by rw [Int.pow_succ]; omega
    simp only [rtGo]
    split
    · have := ih (t + 2 ^ k); omega
    · have := ih t; omega
theorem rl_up {n : Int} (h0 : 0 ≤ n) (h1 : n < 18889465931478580854784) : (if rlGo n 37 0 * rlGo n 37 0 < n then rlGo n 37 0 + 1 else rlGo n 37 0) = rtU n := by
  obtain ⟨a, b, c⟩ := rlGo_spec n 37 0 (by omega) (.inl rfl) (by simp; omega)
  generalize rlGo n 37 0 = t at *
  apply rtU_eq h0 h1
  split
  · next h => exact ⟨by omega, by omega, .inr (by rw [Int.add_sub_cancel]; exact h)⟩
  · next h =>
    rcases b with rfl | b
    · exact ⟨by omega, by omega, .inl rfl⟩
    · exact absurd b h
end Encl

namespace Go.Proofs.Ytgbnpnenejgnnaa
open Go.RowKit Encl

theorem bcl {W w1 : World} (hb : Below W.heap.size W w1) : (∀ b o, b < W.heap.size → w1.cell? ⟨b, o, none⟩ = W.cell? ⟨b, o, none⟩) ∧ (∀ b o, b < W.heap.size → w1.frozen? ⟨b, o, none⟩ = W.frozen? ⟨b, o, none⟩) :=
  ⟨fun b o h => hb.cell (p := ⟨b, o, none⟩) h, fun b o h => hb.frozen (p := ⟨b, o, none⟩) h⟩
/-- How a slot is filled. -/
theorem act_all : (∀ (a : Act) (v : Value), a.put none v = a) ∧ (∀ (a : Act) (d : Tmp) (v : Value), a.put (some d) v = { a with tmps := a.tmps.setIfInBounds d v }) ∧ (∀ {α : Type} (l : List α) (i : Nat) (v : α), l.toArray.setIfInBounds i v = (l.set i v).toArray) ∧ (∀ {α : Type} (x : α) (l : List α) (v : α), (x :: l).set 0 v = v :: l) ∧ (∀ {α : Type} (x : α) (l : List α) (n : Nat) (v : α), (x :: l).set (n + 1) v = x :: l.set n v) :=
  ⟨fun _ _ => rfl, fun _ _ _ => rfl, fun l i v => List.setIfInBounds_toArray l i v, fun _ _ _ => rfl, fun _ _ _ _ => rfl⟩
/-- A new block, above all that stood at the start. -/
theorem bal {a w : World} (h : Below a.heap.size a w) (o : Obj) : Below a.heap.size a (w.alloc o) := h.alloc h.size o
theorem first_drewN {B : Nat} {a w : World} (h : Below B a w) {n : Nat} : Below B a (w.drewN n) := ⟨h.os, h.tape, h.output, h.size, h.block⟩
/-- The panic with an error of the document. -/
def pan (k : Int) : Ending := .panicked [{ v := .iface 26 (.int .i64 k), recovered := false }]
def retS (s : Sp) : Ending := .returned (.agg #[.int .i64 s.lo, .int .i64 s.hi])
def retR (x : Rc) : Ending := .returned (.agg #[.int .i64 x.re.lo, .int .i64 x.re.hi, .int .i64 x.im.lo, .int .i64 x.im.hi])
def IsS (e : Ending) : Out Sp → Prop
  | .ok s => e = retS s
  | .bad k => e = pan k
def IsR (e : Ending) : Out Rc → Prop
  | .ok s => e = retR s
  | .bad k => e = pan k

set_option maxHeartbeats 1000000 in
theorem eValid_any (a b : Int) (w : World) :
    Calls Try.prog 22 #[.agg #[.int .i64 a, .int .i64 b]] w fun e w' => e = .returned (.bool (okS ⟨a, b⟩)) ∧ Below w.heap.size w w' := by
  by_cases h1 : -1099511627776 ≤ a
  · by_cases h2 : a ≤ b
    · by_cases h3 : b ≤ 1099511627776
      · have HE : Hid (okS ⟨a, b⟩ = true) := Lib.hid (by rw [okS_iff]; exact ⟨h1, h2, h3⟩)
        rw [HE.out]
        go_enter Try.func22, Try.ntmps22
        go_wp2_with fail
        go_returns
        exact ⟨rfl, by go_grown⟩
      · have HE : Hid (okS ⟨a, b⟩ = false) := Lib.hid (by rw [← Bool.not_eq_true, okS_iff]; simp only; omega)
        rw [HE.out]
        go_enter Try.func22, Try.ntmps22
        go_wp2_with fail
        go_returns
        exact ⟨rfl, by go_grown⟩
    · have HE : Hid (okS ⟨a, b⟩ = false) := Lib.hid (by rw [← Bool.not_eq_true, okS_iff]; simp only; omega)
      rw [HE.out]
      go_enter Try.func22, Try.ntmps22
      go_wp2_with fail
      go_returns
      exact ⟨rfl, by go_grown⟩
  · have HE : Hid (okS ⟨a, b⟩ = false) := Lib.hid (by rw [← Bool.not_eq_true, okS_iff]; simp only; omega)
    rw [HE.out]
    go_enter Try.func22, Try.ntmps22
    go_wp2_with fail
    go_returns
    exact ⟨rfl, by go_grown⟩

set_option maxHeartbeats 1000000 in
theorem negated_any (a b : Int) (w : World) (ha : -4611686018427387904 ≤ a ∧ a ≤ 4611686018427387904) (hb : -4611686018427387904 ≤ b ∧ b ≤ 4611686018427387904) :
    Calls Try.prog 141 #[.agg #[.int .i64 a, .int .i64 b]] w fun e w' => e = retS ⟨-b, -a⟩ ∧ Below w.heap.size w w' := by
  obtain ⟨ha1, ha2⟩ := ha
  obtain ⟨hb1, hb2⟩ := hb
  go_enter Try.func141, Try.ntmps141
  go_wp2_with fail
  refine bodyPost_ret (v := .agg #[.int .i64 (-b), .int .i64 (-a)]) (by simp [results, Try.results141, go_sem]) rfl ⟨rfl, by go_grown⟩

set_option maxHeartbeats 1000000 in
theorem inRange_any (a b : Int) (w : World) :
    Calls Try.prog 107 #[.agg #[.int .i64 a, .int .i64 b]] w fun e w' => IsS e (inR ⟨a, b⟩) ∧ Below w.heap.size w w' := by
  by_cases h : okS ⟨a, b⟩ = true
  · have HE := Lib.hid h
    have HI := Lib.hid (inR_ok h)
    clear h
    rw [HI.out]
    go_enter Try.func107, Try.ntmps107
    go_wp2_with fail
    refine (eValid_any _ _ _).mono ?_
    rintro e w1 ⟨rfl, hb⟩
    rw [HE.out]
    have D1 : Below w.heap.size w w1 := Below.trans (by go_grown) (hb.mono (by first | omega | (simp; done) | (simp; omega)))
    have s1 : w.heap.size + 1 < w1.heap.size := by have hs := hb.size; (try simp at hs); omega
    obtain ⟨k1, k2⟩ := bcl hb
    have c0 := (k1 w.heap.size 0 (by simp; omega)).trans (by go_cell : _ = some (.int .i64 a))
    have c1 := (k1 w.heap.size 1 (by simp; omega)).trans (by go_cell : _ = some (.int .i64 b))
    have d0 := (k1 (w.heap.size + 1) 0 (by simp)).trans (by go_cell : _ = some (.int .i64 0))
    have d1 := (k1 (w.heap.size + 1) 1 (by simp)).trans (by go_cell : _ = some (.int .i64 0))
    have f0 := (k2 (w.heap.size + 1) 0 (by simp)).trans (by go_cell : _ = false)
    have f1 := (k2 (w.heap.size + 1) 1 (by simp)).trans (by go_cell : _ = false)
    clear hb k1 k2
    go_wp2_with fail
    refine bodyPost_ret (v := .agg #[.int .i64 a, .int .i64 b]) (by simp [results, Try.results107, go_sem, *]) rfl ⟨rfl, by go_grown⟩
  · have HI := Lib.hid (inR_bad h)
    have HE : Hid (okS ⟨a, b⟩ = false) := Lib.hid (by simpa using h)
    clear h
    rw [HI.out]
    go_enter Try.func107, Try.ntmps107
    go_wp2_with fail
    refine (eValid_any _ _ _).mono ?_
    rintro e w1 ⟨rfl, hb⟩
    rw [HE.out]
    have D1 : Below w.heap.size w w1 := Below.trans (by go_grown) (hb.mono (by first | omega | (simp; done) | (simp; omega)))
    clear hb
    go_wp2_with fail
    exact ⟨rfl, rfl, by go_grown⟩
end Go.Proofs.Ytgbnpnenejgnnaa

namespace Encl
theorem inR_okS {s t : Sp} (h : inR s = .ok t) : okS t = true := by
  unfold inR at h
  split at h
  · next g => injection h with h; subst h; exact g
  · cases h
theorem addS_ok {x y t : Sp} (h : addS x y = .ok t) : okS t = true := inR_okS h
theorem subS_ok {x y t : Sp} (h : subS x y = .ok t) : okS t = true := inR_okS h
theorem mulS_ok {x y t : Sp} (h : mulS x y = .ok t) : okS t = true := by rw [mulS_eq] at h; exact inR_okS h
theorem divS_ok {x y t : Sp} (h0 : 0 < y.lo) (h1 : y.lo ≤ y.hi) (h : divS x y = .ok t) : okS t = true := by rw [divS_eq x y h0 h1] at h; exact inR_okS h
theorem sqS_ok {x t : Sp} (h : sqS x = .ok t) : okS t = true := by rw [sqS_eq] at h; exact inR_okS h
theorem neg_ok {a b : Int} (h : okS ⟨a, b⟩ = true) : okS ⟨-b, -a⟩ = true := by
  rw [okS_iff] at *; simp only at *; omega
theorem bind_okI {α β : Type} {o : Out α} {f : α → Out β} {r : β} (h : o.bind f = .ok r) : ∃ a, o = .ok a ∧ f a = .ok r := by
  cases o with
  | ok a => exact ⟨a, rfl, h⟩
  | bad k => cases h
theorem addR_ok {x y t : Rc} (h : addR x y = .ok t) : okR t = true := by
  obtain ⟨a, ha, h⟩ := bind_okI h
  obtain ⟨b, hb, h⟩ := bind_okI h
  injection h with h; subst h
  rw [okR_iff]; exact ⟨addS_ok ha, addS_ok hb⟩
theorem subR_ok {x y t : Rc} (h : subR x y = .ok t) : okR t = true := by
  obtain ⟨a, ha, h⟩ := bind_okI h
  obtain ⟨b, hb, h⟩ := bind_okI h
  injection h with h; subst h
  rw [okR_iff]; exact ⟨subS_ok ha, subS_ok hb⟩
theorem mulR_ok {x y t : Rc} (h : mulR x y = .ok t) : okR t = true := by
  obtain ⟨a, _, h⟩ := bind_okI h
  obtain ⟨b, _, h⟩ := bind_okI h
  obtain ⟨c, hc, h⟩ := bind_okI h
  obtain ⟨d, _, h⟩ := bind_okI h
  obtain ⟨e, _, h⟩ := bind_okI h
  obtain ⟨f, hf, h⟩ := bind_okI h
  injection h with h; subst h
  rw [okR_iff]; exact ⟨subS_ok hc, addS_ok hf⟩
theorem powR_ok {x : Rc} {t : Sp} (h : powR x = .ok t) : okS t = true := by
  obtain ⟨a, _, h⟩ := bind_okI h
  obtain ⟨b, _, h⟩ := bind_okI h
  exact addS_ok h
theorem divR_ok {x y t : Rc} (h : divR x y = .ok t) : okR t = true := by
  obtain ⟨p, hp, h⟩ := bind_okI h
  have g := powR_ok hp
  rw [okS_iff] at g
  split at h
  · cases h
  · next hl =>
    obtain ⟨z, _, h⟩ := bind_okI h
    obtain ⟨a, ha, h⟩ := bind_okI h
    obtain ⟨b, hb, h⟩ := bind_okI h
    injection h with h; subst h
    rw [okR_iff]; exact ⟨divS_ok (by omega) g.2.1 ha, divS_ok (by omega) g.2.1 hb⟩
end Encl
