/- Enclosures: what the terms of the document say, over whole numbers. -/
namespace Encl

inductive Out (α : Type) where
  | ok (v : α)
  | bad (k : Int)
deriving DecidableEq
def Out.bind {α β : Type} : Out α → (α → Out β) → Out β
  | .ok v, f => f v
  | .bad k, _ => .bad k
@[simp] theorem Out.bind_ok {α β : Type} (v : α) (f : α → Out β) : (Out.ok v).bind f = f v := rfl
@[simp] theorem Out.bind_bad {α β : Type} (k : Int) (f : α → Out β) : (Out.bad k : Out α).bind f = .bad k := rfl

theorem Out.binds : (∀ {α β : Type} (v : α) (f : α → Out β), (Out.ok v).bind f = f v) ∧ (∀ {α β : Type} (k : Int) (f : α → Out β), (Out.bad k : Out α).bind f = .bad k) := ⟨fun _ _ => rfl, fun _ _ => rfl⟩
structure Sp where
  lo : Int
  hi : Int
deriving DecidableEq
structure Rc where
  re : Sp
  im : Sp
deriving DecidableEq
theorem Sp.ext' {x y : Sp} (h1 : x.lo = y.lo) (h2 : x.hi = y.hi) : x = y := by
  cases x; cases y; simp at h1 h2; simp [h1, h2]
theorem Rc.ext' {x y : Rc} (h1 : x.re = y.re) (h2 : x.im = y.im) : x = y := by
  cases x; cases y; simp at h1 h2; simp [h1, h2]

def S0 : Sp := ⟨0, 0⟩
def R0 : Rc := ⟨S0, S0⟩
def okS (s : Sp) : Bool := decide (-1099511627776 ≤ s.lo) && (decide (s.lo ≤ s.hi) && decide (s.hi ≤ 1099511627776))
def okR (x : Rc) : Bool := okS x.re && okS x.im
theorem okS_iff (s : Sp) : okS s = true ↔ -1099511627776 ≤ s.lo ∧ s.lo ≤ s.hi ∧ s.hi ≤ 1099511627776 := by simp [okS]
theorem okR_iff (x : Rc) : okR x = true ↔ okS x.re = true ∧ okS x.im = true := by simp [okR]
def inR (s : Sp) : Out Sp := if okS s = true then .ok s else .bad 4
theorem inR_ok {s : Sp} (h : okS s = true) : inR s = .ok s := if_pos h
theorem inR_bad {s : Sp} (h : ¬ okS s = true) : inR s = .bad 4 := if_neg h

def fl (a b d : Int) : Int := a * b / d
def ce (a b d : Int) : Int := -(-(a * b) / d)
/-- a * b / d, rounded down and up. -/
def scS (a b d : Int) : Out Sp := inR ⟨fl a b d, ce a b d⟩
theorem fl_le_ce (a b : Int) {d : Int} (h : 0 < d) : fl a b d ≤ ce a b d := by
  unfold fl ce
  generalize a * b = n
  have h1 := Int.mul_ediv_add_emod n d
  have h2 := Int.mul_ediv_add_emod (-n) d
  have h3 := Int.emod_nonneg n (show d ≠ 0 by omega)
  have h4 := Int.emod_nonneg (-n) (show d ≠ 0 by omega)
  apply Classical.byContradiction; intro hc
  have h5 : 1 ≤ n / d + -n / d := by omega
  have h6 := Int.mul_le_mul_of_nonneg_left h5 (show 0 ≤ d by omega)
  rw [Int.mul_add] at h6
  omega

def negS (x : Sp) : Sp := ⟨-x.hi, -x.lo⟩
def addS (x y : Sp) : Out Sp := inR ⟨x.lo + y.lo, x.hi + y.hi⟩
def subS (x y : Sp) : Out Sp := addS x (negS y)
def hul (s x : Sp) : Sp := ⟨min s.lo x.lo, max s.hi x.hi⟩
def four (a b c d : Out Sp) : Out Sp := a.bind fun a => b.bind fun b => c.bind fun c => d.bind fun d => .ok (hul (hul (hul a b) c) d)
def mulS (x y : Sp) : Out Sp := four (scS x.lo y.lo 1073741824) (scS x.lo y.hi 1073741824) (scS x.hi y.lo 1073741824) (scS x.hi y.hi 1073741824)
def divS (x y : Sp) : Out Sp := four (scS x.lo 1073741824 y.lo) (scS x.lo 1073741824 y.hi) (scS x.hi 1073741824 y.lo) (scS x.hi 1073741824 y.hi)
def zlo (x s : Sp) : Sp := if x.lo ≤ 0 ∧ 0 ≤ x.hi then ⟨0, s.hi⟩ else s
def sqS (x : Sp) : Out Sp := (scS x.lo x.lo 1073741824).bind fun a => (scS x.hi x.hi 1073741824).bind fun b => .ok (zlo x (hul a b))
def halfS (x : Sp) : Sp := ⟨x.lo / 2, -(-x.hi / 2)⟩

/-- The greatest t < 2^k with t * t ≤ n, from t0 on. -/
def rtGo (n : Int) : Nat → Int → Int
  | 0, t => t
  | k + 1, t => if (t + 2 ^ k) * (t + 2 ^ k) ≤ n then rtGo n k (t + 2 ^ k) else rtGo n k t
def rtD (n : Int) : Int := rtGo n 37 0
def rtU (n : Int) : Int := if rtD n * rtD n < n then rtD n + 1 else rtD n
def rootS (x : Sp) : Sp := ⟨rtD (x.lo * 1073741824), rtU (x.hi * 1073741824)⟩

def addR (x y : Rc) : Out Rc := (addS x.re y.re).bind fun a => (addS x.im y.im).bind fun b => .ok ⟨a, b⟩
def subR (x y : Rc) : Out Rc := (subS x.re y.re).bind fun a => (subS x.im y.im).bind fun b => .ok ⟨a, b⟩
def mulR (x y : Rc) : Out Rc := (mulS x.re y.re).bind fun a => (mulS x.im y.im).bind fun b => (subS a b).bind fun re => (mulS x.re y.im).bind fun c => (mulS x.im y.re).bind fun d => (addS c d).bind fun im => .ok ⟨re, im⟩
def powR (x : Rc) : Out Sp := (sqS x.re).bind fun a => (sqS x.im).bind fun b => addS a b
def cjR (x : Rc) : Rc := ⟨x.re, negS x.im⟩
def divR (x y : Rc) : Out Rc := (powR y).bind fun p => if p.lo ≤ 0 then .bad 51 else (mulR x (cjR y)).bind fun z => (divS z.re p).bind fun a => (divS z.im p).bind fun b => .ok ⟨a, b⟩

/-! ### Roots -/
theorem sqle {x y : Int} (hx : 0 ≤ x) (h : x ≤ y) : x * x ≤ y * y := Int.mul_le_mul h h hx (by omega)
theorem sqlt {x y : Int} (hx : 0 ≤ y) (h : x * x < y * y) : x < y := by
  apply Classical.byContradiction; intro hn
  have := sqle hx (show y ≤ x by omega)
  omega
theorem rtGo_spec (n : Int) : ∀ (k : Nat) (t : Int), 0 ≤ t → t * t ≤ n → n < (t + 2 ^ k) * (t + 2 ^ k) → 0 ≤ rtGo n k t ∧ rtGo n k t * rtGo n k t ≤ n ∧ n < (rtGo n k t + 1) * (rtGo n k t + 1) ∧ rtGo n k t < t + 2 ^ k := by
  intro k
  induction k with
  | zero => intro t h0 h1 h2; simp only [rtGo]; simp at h2; exact ⟨h0, h1, h2, by simp; omega⟩
  | succ k ih =>
    intro t h0 h1 h2
    have hp : (0 : Int) < 2 ^ k := Int.pow_pos (by omega)
    have he : (2 : Int) ^ (k + 1) = 2 ^ k + 2 ^ k := by rw [Int.pow_succ]; omega
    simp only [rtGo]
    split
    · next h =>
      obtain ⟨a, b, c, d⟩ := ih (t + 2 ^ k) (by omega) h (by rw [he] at h2; rw [Int.add_assoc]; exact h2)
      exact ⟨a, b, c, by omega⟩
    · next h =>
      obtain ⟨a, b, c, d⟩ := ih t h0 h1 (by omega)
      exact ⟨a, b, c, by omega⟩
/-- t is the root of n, rounded down. -/
def isD (n t : Int) : Prop := 0 ≤ t ∧ t * t ≤ n ∧ n < (t + 1) * (t + 1)
/-- t is the root of n, rounded up. -/
def isU (n t : Int) : Prop := 0 ≤ t ∧ n ≤ t * t ∧ (t = 0 ∨ (t - 1) * (t - 1) < n)
theorem isD_uniq {n s t : Int} (h : isD n s) (g : isD n t) : s = t := by
  obtain ⟨a, b, c⟩ := h
  obtain ⟨d, e, f⟩ := g
  have h1 := sqlt (x := s) (y := t + 1) (by omega) (by omega)
  have h2 := sqlt (x := t) (y := s + 1) (by omega) (by omega)
  omega
theorem isU_uniq {n s t : Int} (h : isU n s) (g : isU n t) : s = t := by
  obtain ⟨a, b, c⟩ := h
  obtain ⟨d, e, f⟩ := g
  have h1 : s ≤ t := by
    rcases c with c | c
    · omega
    · have := sqlt (x := s - 1) (y := t) (by omega) (by omega); omega
  have h2 : t ≤ s := by
    rcases f with c | c
    · omega
    · have := sqlt (x := t - 1) (y := s) (by omega) (by omega); omega
  omega
theorem rtD_is {n : Int} (h0 : 0 ≤ n) (h1 : n < 18889465931478580854784) : isD n (rtD n) := by
  have := rtGo_spec n 37 0 (by omega) (by omega) (by simp; omega)
  exact ⟨this.1, this.2.1, this.2.2.1⟩
theorem rtU_is {n : Int} (h0 : 0 ≤ n) (h1 : n < 18889465931478580854784) : isU n (rtU n) := by
  obtain ⟨a, b, c⟩ := rtD_is h0 h1
  unfold rtU
  split
  · next h => exact ⟨by omega, by omega, .inr (by rw [Int.add_sub_cancel]; exact h)⟩
  · next h =>
    refine ⟨a, by omega, ?_⟩
    by_cases h2 : rtD n = 0
    · exact .inl h2
    · right
      have h3 : rtD n * rtD n = n := by omega
      have h4 : (rtD n - 1) * (rtD n - 1) = rtD n * rtD n - 2 * rtD n + 1 := by grind
      omega
theorem rtD_eq {n t : Int} (h0 : 0 ≤ n) (h1 : n < 18889465931478580854784) (h : isD n t) : t = rtD n := isD_uniq h (rtD_is h0 h1)
theorem rtU_eq {n t : Int} (h0 : 0 ≤ n) (h1 : n < 18889465931478580854784) (h : isU n t) : t = rtU n := isU_uniq h (rtU_is h0 h1)
theorem isD_mono {m n s t : Int} (h : isD m s) (g : isD n t) (hl : m ≤ n) : s ≤ t := by
  have := sqlt (x := s) (y := t + 1) (by have := g.1; omega) (by have := h.2.1; have := g.2.2; omega)
  omega
theorem isU_mono {m n s t : Int} (h : isU m s) (g : isU n t) (hl : m ≤ n) : s ≤ t := by
  rcases h.2.2 with c | c
  · have := g.1; omega
  · have := sqlt (x := s - 1) (y := t) g.1 (by have := g.2.1; omega); omega
theorem isDU {m n s t : Int} (h : isD m s) (g : isU n t) (hl : m ≤ n) : s ≤ t := by
  apply Classical.byContradiction; intro hc
  have h1 := sqle (x := t + 1) (y := s) (by have := g.1; omega) (by omega)
  have h2 : (t + 1) * (t + 1) = t * t + 2 * t + 1 := by grind
  have := h.2.1; have := g.2.1; have := g.1
  omega
theorem rootS_ok {x : Sp} (h : okS x = true) (h0 : 0 ≤ x.lo) : okS (rootS x) = true ∧ 0 ≤ (rootS x).lo ∧ (rootS x).hi ≤ 34359738368 := by
  rw [okS_iff] at h
  have hd := rtD_is (n := x.lo * 1073741824) (by omega) (by omega)
  have hu := rtU_is (n := x.hi * 1073741824) (by omega) (by omega)
  have h1 := isDU hd hu (by omega)
  have h2 : rtU (x.hi * 1073741824) ≤ 34359738368 := by
    rcases hu.2.2 with c | c
    · omega
    · have := sqlt (x := rtU (x.hi * 1073741824) - 1) (y := 34359738368) (by omega) (by omega); omega
  refine ⟨?_, hd.1, h2⟩
  rw [okS_iff]
  exact ⟨by have := hd.1; simp only [rootS]; omega, h1, by simp only [rootS]; omega⟩
end Encl
