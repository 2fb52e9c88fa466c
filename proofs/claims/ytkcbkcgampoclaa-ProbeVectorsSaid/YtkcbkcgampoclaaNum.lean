namespace Amp

/-- Four whole numbers: a + b w + c w^2 + d w^3. -/
structure C4 where
  a : Int
  b : Int
  c : Int
  d : Int
deriving DecidableEq

theorem C4.ext' {x y : C4} (h1 : x.a = y.a) (h2 : x.b = y.b) (h3 : x.c = y.c) (h4 : x.d = y.d) : x = y := by
  cases x; cases y; simp at h1 h2 h3 h4; simp [h1, h2, h3, h4]

def C0 : C4 := ⟨0, 0, 0, 0⟩
def neg (x : C4) : C4 := ⟨-x.a, -x.b, -x.c, -x.d⟩
def conj (x : C4) : C4 := ⟨x.a, -x.d, -x.c, -x.b⟩
def flp (x : C4) : C4 := ⟨x.a, -x.b, x.c, -x.d⟩
def rot (x : C4) : C4 := ⟨-x.d, x.a, x.b, x.c⟩
def tr (x : C4) : C4 := ⟨x.b - x.d, x.a + x.c, x.b + x.d, x.c - x.a⟩
def add (x y : C4) : C4 := ⟨x.a + y.a, x.b + y.b, x.c + y.c, x.d + y.d⟩
def sub (x y : C4) : C4 := ⟨x.a - y.a, x.b - y.b, x.c - y.c, x.d - y.d⟩
def mul (x y : C4) : C4 :=
  ⟨x.a * y.a - x.b * y.d - x.c * y.c - x.d * y.b,
   x.a * y.b + x.b * y.a - x.c * y.d - x.d * y.c,
   x.a * y.c + x.b * y.b + x.c * y.a - x.d * y.d,
   x.a * y.d + x.b * y.c + x.c * y.b + x.d * y.a⟩
def dbl (x : C4) : C4 := ⟨2 * x.a, 2 * x.b, 2 * x.c, 2 * x.d⟩
def half (x : C4) : C4 := ⟨x.a.tdiv 2, x.b.tdiv 2, x.c.tdiv 2, x.d.tdiv 2⟩
/-- Can it be divided by the root of 2? -/
def dvb (x : C4) : Bool := (x.a + x.c).tmod 2 == 0 && (x.b + x.d).tmod 2 == 0

theorem tmod2 (n : Int) : n.tmod 2 = 0 ↔ n % 2 = 0 := by
  rw [Int.tmod_eq_emod]; split <;> omega
theorem dvb_iff (x : C4) : dvb x = true ↔ (x.a + x.c) % 2 = 0 ∧ (x.b + x.d) % 2 = 0 := by
  simp [dvb, tmod2]
theorem tdiv2 (n : Int) (h : n % 2 = 0) : n.tdiv 2 = n / 2 := by
  rw [Int.tdiv_eq_ediv]; split
  · omega
  · next h2 => exact absurd (Or.inr (Int.dvd_of_emod_eq_zero h)) h2
theorem tr_tr (x : C4) : tr (tr x) = dbl x := by
  apply C4.ext' <;> simp [tr, dbl] <;> omega
theorem half_dbl (x : C4) : half (dbl x) = x := by
  apply C4.ext' <;> simp only [half, dbl] <;> (rw [tdiv2 _ (by omega)]; omega)
theorem tr_half (x : C4) (h : dvb x = true) : tr (half (tr x)) = x := by
  rw [dvb_iff] at h
  apply C4.ext' <;> simp only [half, tr] <;> (repeat rw [tdiv2 _ (by omega)]) <;> omega
theorem dvb_tr (x : C4) : dvb (tr x) = true := by
  rw [dvb_iff]; simp [tr]; omega
theorem half_tr_tr (x : C4) : half (tr (tr x)) = x := by rw [tr_tr, half_dbl]
theorem tr_inj {x y : C4} (h : tr x = tr y) : x = y := by
  have := congrArg (fun z => half (tr z)) h
  simpa [half_tr_tr] using this

def trn : Nat → C4 → C4
  | 0, x => x
  | n + 1, x => trn n (tr x)
theorem trn_tr (n : Nat) (x : C4) : trn n (tr x) = tr (trn n x) := by
  induction n generalizing x with
  | zero => rfl
  | succ n ih => simp only [trn]; rw [ih]
theorem trn_succ (n : Nat) (x : C4) : trn (n + 1) x = tr (trn n x) := trn_tr n x
theorem trn_add (m n : Nat) (x : C4) : trn (m + n) x = trn m (trn n x) := by
  induction m with
  | zero => simp [trn]
  | succ m ih => rw [Nat.add_right_comm, trn_succ, ih, trn_succ]
theorem trn_comm (m n : Nat) (x : C4) : trn m (trn n x) = trn n (trn m x) := by
  rw [← trn_add, ← trn_add, Nat.add_comm]
theorem trn_inj {n : Nat} {x y : C4} (h : trn n x = trn n y) : x = y := by
  induction n with
  | zero => exact h
  | succ n ih => rw [trn_succ, trn_succ] at h; exact ih (tr_inj h)

/-- The form of a sum divided by r^k. -/
def red : C4 → Nat → C4 × Nat
  | x, 0 => (x, 0)
  | x, k + 1 => if dvb x = true then red (half (tr x)) k else (x, k + 1)
theorem red_tr (x : C4) (k : Nat) : red (tr x) (k + 1) = red x k := by
  simp [red, dvb_tr, half_tr_tr]
theorem red_trn (n : Nat) (x : C4) (k : Nat) : red (trn n x) (k + n) = red x k := by
  induction n with
  | zero => rfl
  | succ n ih => rw [trn_succ, ← Nat.add_assoc, red_tr, ih]
theorem red_le (x : C4) (k : Nat) : (red x k).2 ≤ k := by
  induction k generalizing x with
  | zero => simp [red]
  | succ k ih =>
    unfold red; split
    · exact Nat.le_succ_of_le (ih _)
    · exact Nat.le_refl _
theorem red_spec (x : C4) (k : Nat) : trn (k - (red x k).2) (red x k).1 = x := by
  induction k generalizing x with
  | zero => simp [red, trn]
  | succ k ih =>
    unfold red; split
    · next h =>
      have hl := red_le (half (tr x)) k
      rw [Nat.succ_sub hl, trn_succ, ih, tr_half x h]
    · simp [trn]
theorem red_form (x : C4) (k : Nat) : (red x k).2 = 0 ∨ dvb (red x k).1 = false := by
  induction k generalizing x with
  | zero => simp [red]
  | succ k ih =>
    unfold red; split
    · exact ih _
    · next h => right; simpa using h
theorem red_of_form (x : C4) (k : Nat) (h : k = 0 ∨ dvb x = false) : red x k = (x, k) := by
  cases k with
  | zero => rfl
  | succ k => unfold red; rw [if_neg]; rcases h with h | h <;> simp_all
/-- Two numbers are equal: cleared of their denominators. -/
def eqv (x : C4) (k : Nat) (y : C4) (l : Nat) : Prop := trn l x = trn k y
theorem red_of_eqv {x y : C4} {k l : Nat} (h : eqv x k y l) : red x k = red y l := by
  rw [← red_trn l x k, ← red_trn k y l, h, Nat.add_comm]
theorem eqv_red (x : C4) (k : Nat) : eqv (red x k).1 (red x k).2 x k := by
  unfold eqv
  have hl := red_le x k
  have h1 := red_spec x k
  generalize red x k = p at *
  rw [← h1, ← trn_add, Nat.add_sub_cancel' hl]
theorem eqv_symm {x y : C4} {k l : Nat} (h : eqv x k y l) : eqv y l x k := Eq.symm h
theorem eqv_trans {x y z : C4} {k l m : Nat} (h : eqv x k y l) (g : eqv y l z m) : eqv x k z m := by
  unfold eqv at *
  apply trn_inj (n := l)
  rw [trn_comm, h, trn_comm, g, trn_comm]
theorem eqv_of_red {x y : C4} {k l : Nat} (h : red x k = red y l) : eqv x k y l := by
  have h1 := eqv_symm (eqv_red x k)
  rw [h] at h1
  exact eqv_trans h1 (eqv_red y l)

/-! ### The ring -/
theorem tr_add (x y : C4) : tr (add x y) = add (tr x) (tr y) := by
  apply C4.ext' <;> simp only [tr, add] <;> omega
theorem tr_sub (x y : C4) : tr (sub x y) = sub (tr x) (tr y) := by
  apply C4.ext' <;> simp only [tr, sub] <;> omega
theorem trn_addd (n : Nat) (x y : C4) : trn n (add x y) = add (trn n x) (trn n y) := by
  induction n with
  | zero => rfl
  | succ n ih => rw [trn_succ, ih, tr_add, trn_succ, trn_succ]
theorem trn_sub (n : Nat) (x y : C4) : trn n (sub x y) = sub (trn n x) (trn n y) := by
  induction n with
  | zero => rfl
  | succ n ih => rw [trn_succ, ih, tr_sub, trn_succ, trn_succ]
theorem add_comm (x y : C4) : add x y = add y x := by
  apply C4.ext' <;> simp only [add] <;> omega
theorem add_sub_cancel (x y : C4) : sub (add x y) y = x := by
  apply C4.ext' <;> simp only [add, sub] <;> omega
theorem mul_comm (x y : C4) : mul x y = mul y x := by
  apply C4.ext' <;> simp only [mul] <;> grind
theorem mul_add (x y z : C4) : mul (add x y) z = add (mul x z) (mul y z) := by
  apply C4.ext' <;> simp only [mul, add] <;> grind
theorem tr_mul (x y : C4) : tr (mul x y) = mul (tr x) y := by
  apply C4.ext' <;> simp only [mul, tr] <;> grind
theorem tr_mul' (x y : C4) : tr (mul x y) = mul x (tr y) := by
  apply C4.ext' <;> simp only [mul, tr] <;> grind
theorem trn_mul (n : Nat) (x y : C4) : trn n (mul x y) = mul (trn n x) y := by
  induction n with
  | zero => rfl
  | succ n ih => rw [trn_succ, ih, tr_mul, trn_succ]
theorem trn_mul' (n : Nat) (x y : C4) : trn n (mul x y) = mul x (trn n y) := by
  rw [mul_comm, trn_mul, mul_comm]
theorem mul_assoc (x y z : C4) : mul (mul x y) z = mul x (mul y z) := by
  apply C4.ext' <;> simp only [mul] <;> grind
theorem conj_mul (x y : C4) : conj (mul x y) = mul (conj x) (conj y) := by
  apply C4.ext' <;> simp only [mul, conj] <;> grind
theorem flp_mul (x y : C4) : flp (mul x y) = mul (flp x) (flp y) := by
  apply C4.ext' <;> simp only [mul, flp] <;> grind
theorem conj_tr (x : C4) : conj (tr x) = tr (conj x) := by
  apply C4.ext' <;> simp only [tr, conj] <;> omega
theorem flp_tr (x : C4) : flp (tr x) = neg (tr (flp x)) := by
  apply C4.ext' <;> simp only [tr, flp, neg] <;> omega
theorem conj_conj (x : C4) : conj (conj x) = x := by
  apply C4.ext' <;> simp only [conj] <;> omega
theorem conj_trn (n : Nat) (x : C4) : conj (trn n x) = trn n (conj x) := by
  induction n with
  | zero => rfl
  | succ n ih => rw [trn_succ, conj_tr, ih, trn_succ]
end Amp
