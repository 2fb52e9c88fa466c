import Derived.Test.YtgbnpnenejgnnaaChecked
import Derived.WalkKit
import Derived.WalkSpells
import Derived.WalkLawsBesides
import Derived.Handy
import Derived.Lib.Hide
import Derived.BigQuiet
import Derived.Deep.QuietTactic
import Derived.Outline
namespace Amp

/-- Four whole numbers: a + b w + c w^2 + d w^3. -/
structure C4 where
  a : Int
  b : Int
  c : Int
  d : Int
deriving DecidableEq

theorem C4.ext' {x y : C4} (h1 : x.a = y.a) (h2 : x.b = y.b) (h3 : x.c = y.c) (h4 : x.d = y.d) : x = y := by
  cases x; cases y; simp at h1 h2 h3 h4; simp [h1, h2, h3, h4]

def C0 : C4 := ⟨0, 0, 0, 0⟩
def neg (x : C4) : C4 := ⟨-x.a, -x.b, -x.c, -x.d⟩
def conj (x : C4) : C4 := ⟨x.a, -x.d, -x.c, -x.b⟩
def flp (x : C4) : C4 := ⟨x.a, -x.b, x.c, -x.d⟩
def rot (x : C4) : C4 := ⟨-x.d, x.a, x.b, x.c⟩
def tr (x : C4) : C4 := ⟨x.b - x.d, x.a + x.c, x.b + x.d, x.c - x.a⟩
def add (x y : C4) : C4 := ⟨x.a + y.a, x.b + y.b, x.c + y.c, x.d + y.d⟩
def sub (x y : C4) : C4 := ⟨x.a - y.a, x.b - y.b, x.c - y.c, x.d - y.d⟩
def mul (x y : C4) : C4 :=
  ⟨x.a * y.a - x.b * y.d - x.c * y.c - x.d * y.b,
   x.a * y.b + x.b * y.a - x.c * y.d - x.d * y.c,
   x.a * y.c + x.b * y.b + x.c * y.a - x.d * y.d,
   x.a * y.d + x.b * y.c + x.c * y.b + x.d * y.a⟩
def dbl (x : C4) : C4 := ⟨2 * x.a, 2 * x.b, 2 * x.c, 2 * x.d⟩
def half (x : C4) : C4 := ⟨x.a.tdiv 2, x.b.tdiv 2, x.c.tdiv 2, x.d.tdiv 2⟩
/-- Can it be divided by the root of 2? -/
def dvb (x : C4) : Bool := (x.a + x.c).tmod 2 == 0 && (x.b + x.d).tmod 2 == 0

theorem tmod2 (n : Int) : n.tmod 2 = 0 ↔ n % 2 = 0 := by
  rw [Int.tmod_eq_emod]; split <;> omega
theorem dvb_iff (x : C4) : dvb x = true ↔ (x.a + x.c) % 2 = 0 ∧ (x.b + x.d) % 2 = 0 := by
  simp [dvb, tmod2]
theorem tdiv2 (n : Int) (h : n % 2 = 0) : n.tdiv 2 = n / 2 := by
  rw [Int.tdiv_eq_ediv]; split
  · omega
  · next h2 => exact absurd (Or.inr (Int.dvd_of_emod_eq_zero h)) h2
theorem tr_tr (x : C4) : tr (tr x) = dbl x := by
  apply C4.ext' <;> simp [tr, dbl] <;> omega
theorem half_dbl (x : C4) : half (dbl x) = x := by
  apply C4.ext' <;> simp only [half, dbl] <;> (rw [tdiv2 _ (by omega)]; omega)
theorem tr_half (x : C4) (h : dvb x = true) : tr (half (tr x)) = x := by
  rw [dvb_iff] at h
  apply C4.ext' <;> simp only [half, tr] <;> (repeat rw [tdiv2 _ (by omega)]) <;> omega
theorem dvb_tr (x : C4) : dvb (tr x) = true := by
  rw [dvb_iff]; simp [tr]; omega
theorem half_tr_tr (x : C4) : half (tr (tr x)) = x := by rw [tr_tr, half_dbl]
theorem tr_inj {x y : C4} (h : tr x = tr y) : x = y := by
  have := congrArg (fun z => half (tr z)) h
  simpa [half_tr_tr] using this

def trn : Nat → C4 → C4
  | 0, x => x
  | n + 1, x => trn n (tr x)
theorem trn_tr (n : Nat) (x : C4) : trn n (tr x) = tr (trn n x) := by
  induction n generalizing x with
  | zero => rfl
  | succ n ih => simp only [trn]; rw [ih]
theorem trn_succ (n : Nat) (x : C4) : trn (n + 1) x = tr (trn n x) := trn_tr n x
theorem trn_add (m n : Nat) (x : C4) : trn (m + n) x = trn m (trn n x) := by
  induction m with
  | zero => simp [trn]
  | succ m ih => rw [Nat.add_right_comm, trn_succ, ih, trn_succ]
theorem trn_comm (m n : Nat) (x : C4) : trn m (trn n x) = trn n (trn m x) := by
  rw [← trn_add, ← trn_add, Nat.add_comm]
theorem trn_inj {n : Nat} {x y : C4} (h : trn n x = trn n y) : x = y := by
  induction n with
  | zero => exact h
  | succ n ih => rw [trn_succ, trn_succ] at h; exact ih (tr_inj h)

/-- The form of a sum divided by r^k. -/
def red : C4 → Nat → C4 × Nat
  | x, 0 => (x, 0)
  | x, k + 1 => if dvb x = true then red (half (tr x)) k else (x, k + 1)
theorem red_tr (x : C4) (k : Nat) : red (tr x) (k + 1) = red x k := by
  simp [red, dvb_tr, half_tr_tr]
theorem red_trn (n : Nat) (x : C4) (k : Nat) : red (trn n x) (k + n) = red x k := by
  induction n with
  | zero => rfl
  | succ n ih => rw [trn_succ, ← Nat.add_assoc, red_tr, ih]
theorem red_le (x : C4) (k : Nat) : (red x k).2 ≤ k := by
  induction k generalizing x with
  | zero => simp [red]
  | succ k ih =>
    unfold red; split
    · exact Nat.le_succ_of_le (ih _)
    · exact Nat.le_refl _
theorem red_spec (x : C4) (k : Nat) : trn (k - (red x k).2) (red x k).1 = x := by
  induction k generalizing x with
  | zero => simp [red, trn]
  | succ k ih =>
    unfold red; split
    · next h =>
      have hl := red_le (half (tr x)) k
      rw [Nat.succ_sub hl, trn_succ, ih, tr_half x h]
    · simp [trn]
theorem red_form (x : C4) (k : Nat) : (red x k).2 = 0 ∨ dvb (red x k).1 = false := by
  induction k generalizing x with
  | zero => simp [red]
  | succ k ih =>
    unfold red; split
    · exact ih _
    · next h => right; simpa using h
theorem red_of_form (x : C4) (k : Nat) (h : k = 0 ∨ dvb x = false) : red x k = (x, k) := by
  cases k with
  | zero => rfl
  | succ k => unfold red; rw [if_neg]; rcases h with h | h <;> simp_all
/-- Two numbers are equal: cleared of their denominators. -/
def eqv (x : C4) (k : Nat) (y : C4) (l : Nat) : Prop := trn l x = trn k y
theorem red_of_eqv {x y : C4} {k l : Nat} (h : eqv x k y l) : red x k = red y l := by
  rw [← red_trn l x k, ← red_trn k y l, h, Nat.add_comm]
theorem eqv_red (x : C4) (k : Nat) : eqv (red x k).1 (red x k).2 x k := by
  unfold eqv
  have hl := red_le x k
  have h1 := red_spec x k
  generalize red x k = p at *
  rw [← h1, ← trn_add, Nat.add_sub_cancel' hl]
theorem eqv_symm {x y : C4} {k l : Nat} (h : eqv x k y l) : eqv y l x k := Eq.symm h
theorem eqv_trans {x y z : C4} {k l m : Nat} (h : eqv x k y l) (g : eqv y l z m) : eqv x k z m := by
  unfold eqv at *
  apply trn_inj (n := l)
  rw [trn_comm, h, trn_comm, g, trn_comm]
theorem eqv_of_red {x y : C4} {k l : Nat} (h : red x k = red y l) : eqv x k y l := by
  have h1 := eqv_symm (eqv_red x k)
  rw [h] at h1
  exact eqv_trans h1 (eqv_red y l)

/-! ### The ring -/
theorem tr_add (x y : C4) : tr (add x y) = add (tr x) (tr y) := by
  apply C4.ext' <;> simp only [tr, add] <;> omega
theorem tr_sub (x y : C4) : tr (sub x y) = sub (tr x) (tr y) := by
  apply C4.ext' <;> simp only [tr, sub] <;> omega
theorem trn_addd (n : Nat) (x y : C4) : trn n (add x y) = add (trn n x) (trn n y) := by
  induction n with
  | zero => rfl
  | succ n ih => rw [trn_succ, ih, tr_add, trn_succ, trn_succ]
theorem trn_sub (n : Nat) (x y : C4) : trn n (sub x y) = sub (trn n x) (trn n y) := by
  induction n with
  | zero => rfl
  | succ n ih => rw [trn_succ, ih, tr_sub, trn_succ, trn_succ]
theorem add_comm (x y : C4) : add x y = add y x := by
  apply C4.ext' <;> simp only [add] <;> omega
theorem add_sub_cancel (x y : C4) : sub (add x y) y = x := by
  apply C4.ext' <;> simp only [add, sub] <;> omega
theorem mul_comm (x y : C4) : mul x y = mul y x := by
  apply C4.ext' <;> simp only [mul] <;> grind
theorem mul_add (x y z : C4) : mul (add x y) z = add (mul x z) (mul y z) := by
  apply C4.ext' <;> simp only [mul, add] <;> grind
theorem tr_mul (x y : C4) : tr (mul x y) = mul (tr x) y := by
  apply C4.ext' <;> simp only [mul, tr] <;> grind
theorem tr_mul' (x y : C4) : tr (mul x y) = mul x (tr y) := by
  apply C4.ext' <;> simp only [mul, tr] <;> grind
theorem trn_mul (n : Nat) (x y : C4) : trn n (mul x y) = mul (trn n x) y := by
  induction n with
  | zero => rfl
  | succ n ih => rw [trn_succ, ih, tr_mul, trn_succ]
theorem trn_mul' (n : Nat) (x y : C4) : trn n (mul x y) = mul x (trn n y) := by
  rw [mul_comm, trn_mul, mul_comm]
theorem mul_assoc (x y z : C4) : mul (mul x y) z = mul x (mul y z) := by
  apply C4.ext' <;> simp only [mul] <;> grind
theorem conj_mul (x y : C4) : conj (mul x y) = mul (conj x) (conj y) := by
  apply C4.ext' <;> simp only [mul, conj] <;> grind
theorem flp_mul (x y : C4) : flp (mul x y) = mul (flp x) (flp y) := by
  apply C4.ext' <;> simp only [mul, flp] <;> grind
theorem conj_tr (x : C4) : conj (tr x) = tr (conj x) := by
  apply C4.ext' <;> simp only [tr, conj] <;> omega
theorem flp_tr (x : C4) : flp (tr x) = neg (tr (flp x)) := by
  apply C4.ext' <;> simp only [tr, flp, neg] <;> omega
theorem conj_conj (x : C4) : conj (conj x) = x := by
  apply C4.ext' <;> simp only [conj] <;> omega
theorem conj_trn (n : Nat) (x : C4) : conj (trn n x) = trn n (conj x) := by
  induction n with
  | zero => rfl
  | succ n ih => rw [trn_succ, conj_tr, ih, trn_succ]
end Amp

namespace Amp

/-- A number: a sum and the exponent of its divisor. -/
structure Nm where
  v : C4
  k : Int
deriving DecidableEq

theorem Nm.ext' {x y : Nm} (h1 : x.v = y.v) (h2 : x.k = y.k) : x = y := by
  cases x; cases y; simp at h1 h2; simp [h1, h2]

def N0 : Nm := ⟨C0, 0⟩
def smI (n : Int) : Bool := decide (-1000000000 ≤ n) && decide (n ≤ 1000000000)
def sm (x : C4) : Bool := smI x.a && smI x.b && smI x.c && smI x.d
def vld (z : Nm) : Bool := sm z.v && (z.k == 0 || (decide (0 < z.k) && decide (z.k ≤ 40) && !dvb z.v))
def bg (B n : Int) : Prop := -B ≤ n ∧ n ≤ B
def big (B : Int) (x : C4) : Prop := bg B x.a ∧ bg B x.b ∧ bg B x.c ∧ bg B x.d
instance (B n : Int) : Decidable (bg B n) := by unfold bg; infer_instance
instance (B : Int) (x : C4) : Decidable (big B x) := by unfold big; infer_instance

/-- The form of x / r^k, or ErrLimit. -/
def made (x : C4) (k : Nat) : Nm × Int :=
  if vld ⟨(red x k).1, (red x k).2⟩ = true then (⟨(red x k).1, (red x k).2⟩, 0) else (N0, 4)
/-- P1.2 -/
def makeS (x : C4) (k : Int) : Nm × Int :=
  if big 1152921504606846976 x then (if 0 ≤ k ∧ k ≤ 1000 then made x k.toNat else (N0, 2)) else (N0, 2)

theorem smI_iff (n : Int) : smI n = true ↔ -1000000000 ≤ n ∧ n ≤ 1000000000 := by simp [smI]
theorem sm_iff (x : C4) : sm x = true ↔ big 1000000000 x := by
  simp [sm, smI_iff, big, bg, and_assoc]
theorem half_big {B : Int} {x : C4} (h : big B x) : big B (half (tr x)) := by
  obtain ⟨⟨a1, a2⟩, ⟨b1, b2⟩, ⟨c1, c2⟩, ⟨d1, d2⟩⟩ := h
  have t : ∀ n : Int, -(2 * B) ≤ n → n ≤ 2 * B → bg B (n.tdiv 2) := by
    intro n h1 h2
    unfold bg
    rw [Int.tdiv_eq_ediv]
    split
    · omega
    · have : Int.sign 2 = 1 := rfl
      rw [this]; omega
  refine ⟨t _ ?_ ?_, t _ ?_ ?_, t _ ?_ ?_, t _ ?_ ?_⟩ <;> simp only [tr] <;> omega
theorem red_step {x : C4} {k : Nat} (h : dvb x = true) : red x (k + 1) = red (half (tr x)) k := by
  rw [red, if_pos h]
theorem red_stop {x : C4} {k : Nat} (h : dvb x = false) : red x k = (x, k) := red_of_form x k (Or.inr h)
theorem red_big {B : Int} (k : Nat) : ∀ {x : C4}, big B x → big B (red x k).1 := by
  induction k with
  | zero => intro x h; exact h
  | succ k ih =>
    intro x h
    unfold red; split
    · exact ih (half_big h)
    · exact h
theorem made_ok {x y : C4} {j k : Nat} (h1 : red y j = (y, j)) (h2 : red y j = red x k) (h3 : vld ⟨y, j⟩ = true) : made x k = (⟨y, j⟩, 0) := by
  unfold made; rw [← h2, h1]; simp only [h3, if_true]
theorem made_bad {x y : C4} {j k : Nat} (h1 : red y j = (y, j)) (h2 : red y j = red x k) (h3 : vld ⟨y, j⟩ = false) : made x k = (N0, 4) := by
  unfold made; rw [← h2, h1]; simp only [h3]; rfl
theorem makeS_ok {x : C4} {k : Int} (h1 : big 1152921504606846976 x) (h2 : 0 ≤ k ∧ k ≤ 1000) : makeS x k = made x k.toNat := by
  unfold makeS; rw [if_pos h1, if_pos h2]
theorem makeS_bad {x : C4} {k : Int} (h : ¬ (big 1152921504606846976 x ∧ 0 ≤ k ∧ k ≤ 1000)) : makeS x k = (N0, 2) := by
  unfold makeS
  split
  · next h1 => rw [if_neg (fun h2 => h ⟨h1, h2⟩)]
  · rfl
/-- Are the first n numbers valid? -/
def okTo (f : Nat → Nm) : Nat → Bool
  | 0 => true
  | n + 1 => okTo f n && vld (f n)
theorem okTo_stop {f : Nat → Nm} {k : Nat} (h : vld (f k) = false) : ∀ n, k < n → okTo f n = false := by
  intro n
  induction n with
  | zero => intro h; omega
  | succ n ih =>
    intro hk
    simp only [okTo]
    by_cases e : k = n
    · subst e; rw [h]; simp
    · rw [ih (by omega)]; rfl
end Amp

namespace Go.Proofs.Ytgbnpnenejgnnaa
open Go.RowKit Amp

theorem ix0 (x0 x1 x2 x3 : Value) (w : World) : (Instr.index 67 (.agg #[x0, x1, x2, x3]) (.int .i64 0)).run Try.prog w = .ok x0 w := by kernel_rfl
theorem ix1 (x0 x1 x2 x3 : Value) (w : World) : (Instr.index 67 (.agg #[x0, x1, x2, x3]) (.int .i64 1)).run Try.prog w = .ok x1 w := by kernel_rfl
theorem ix2 (x0 x1 x2 x3 : Value) (w : World) : (Instr.index 67 (.agg #[x0, x1, x2, x3]) (.int .i64 2)).run Try.prog w = .ok x2 w := by kernel_rfl
theorem ix3 (x0 x1 x2 x3 : Value) (w : World) : (Instr.index 67 (.agg #[x0, x1, x2, x3]) (.int .i64 3)).run Try.prog w = .ok x3 w := by kernel_rfl
theorem jx0 (x0 x1 x2 x3 : Value) (w : World) : (Instr.index 139 (.agg #[x0, x1, x2, x3]) (.int .i64 0)).run Try.prog w = .ok x0 w := by kernel_rfl
theorem jx1 (x0 x1 x2 x3 : Value) (w : World) : (Instr.index 139 (.agg #[x0, x1, x2, x3]) (.int .i64 1)).run Try.prog w = .ok x1 w := by kernel_rfl
theorem jx2 (x0 x1 x2 x3 : Value) (w : World) : (Instr.index 139 (.agg #[x0, x1, x2, x3]) (.int .i64 2)).run Try.prog w = .ok x2 w := by kernel_rfl
theorem jx3 (x0 x1 x2 x3 : Value) (w : World) : (Instr.index 139 (.agg #[x0, x1, x2, x3]) (.int .i64 3)).run Try.prog w = .ok x3 w := by kernel_rfl
attribute [local go_sem] ix0 ix1 ix2 ix3 jx0 jx1 jx2 jx3

theorem bcell {W w1 : World} (hb : Below W.heap.size W w1) : (∀ b o, b < W.heap.size → w1.cell? ⟨b, o, none⟩ = W.cell? ⟨b, o, none⟩) ∧ (∀ b o, b < W.heap.size → w1.frozen? ⟨b, o, none⟩ = W.frozen? ⟨b, o, none⟩) :=
  ⟨fun b o h => hb.cell (p := ⟨b, o, none⟩) h, fun b o h => hb.frozen (p := ⟨b, o, none⟩) h⟩

set_option maxHeartbeats 400000 in
theorem divisible_any (a b c d : Int) (w : World) (h : big 4611686018427387903 ⟨a, b, c, d⟩) :
    Calls Try.prog 148 #[.agg #[.int .i64 a, .int .i64 b, .int .i64 c, .int .i64 d]] w fun e w' => e = .returned (.bool (dvb ⟨a, b, c, d⟩)) ∧ Below w.heap.size w w' := by
  obtain ⟨⟨a1, a2⟩, ⟨b1, b2⟩, ⟨c1, c2⟩, ⟨d1, d2⟩⟩ := h
  simp only at a1 a2 b1 b2 c1 c2 d1 d2
  go_enter Try.func148, Try.ntmps148
  go_wp2
  all_goals
    go_returns
    exact ⟨by simp [dvb, *], by go_grown⟩
set_option maxHeartbeats 400000 in
theorem timesRoot_any (a b c d : Int) (w : World) (h : big 4611686018427387903 ⟨a, b, c, d⟩) :
    Calls Try.prog 149 #[.agg #[.int .i64 a, .int .i64 b, .int .i64 c, .int .i64 d]] w fun e w' => e = .returned (.agg #[.int .i64 (b - d), .int .i64 (a + c), .int .i64 (b + d), .int .i64 (c - a)]) ∧ Below w.heap.size w w' := by
  obtain ⟨⟨a1, a2⟩, ⟨b1, b2⟩, ⟨c1, c2⟩, ⟨d1, d2⟩⟩ := h
  simp only at a1 a2 b1 b2 c1 c2 d1 d2
  go_enter Try.func149, Try.ntmps149
  go_wp2
  go_returns
  exact ⟨rfl, by go_grown⟩

set_option maxHeartbeats 1000000 in
theorem Valid_any (a b c d k : Int) (w : World) :
    Calls Try.prog 147 #[.agg #[.int .i64 a, .int .i64 b, .int .i64 c, .int .i64 d, .int .i64 k]] w fun e w' => e = .returned (.bool (vld ⟨⟨a, b, c, d⟩, k⟩)) ∧ Below w.heap.size w w' := by
  go_enter Try.func147, Try.ntmps147
  go_wp2
  go_rounds 5
  all_goals
    go_returns
    exact ⟨congrArg (fun x => Ending.returned (.bool x)) (by simp [vld, sm, smI, dvb]; first | omega | (simp [*]; done) | (simp [*]; omega)), by go_grown⟩
end Go.Proofs.Ytgbnpnenejgnnaa

namespace Go.Proofs.Ytgbnpnenejgnnaa
open Go.RowKit Amp
attribute [local go_sem] ix0 ix1 ix2 ix3 jx0 jx1 jx2 jx3

/-- A block of four cells of a frame of its own. -/
def Has4 (w : World) (n : Nat) (a b c d : Int) : Prop :=
  (w.cell? ⟨n, 0, none⟩ = some (.int .i64 a) ∧ w.cell? ⟨n, 1, none⟩ = some (.int .i64 b) ∧ w.cell? ⟨n, 2, none⟩ = some (.int .i64 c) ∧ w.cell? ⟨n, 3, none⟩ = some (.int .i64 d)) ∧
  (w.frozen? ⟨n, 0, none⟩ = false ∧ w.frozen? ⟨n, 1, none⟩ = false ∧ w.frozen? ⟨n, 2, none⟩ = false ∧ w.frozen? ⟨n, 3, none⟩ = false)
/-- A block of five cells. -/
def Has5 (w : World) (n : Nat) (a b c d k : Int) : Prop :=
  (w.cell? ⟨n, 0, none⟩ = some (.int .i64 a) ∧ w.cell? ⟨n, 1, none⟩ = some (.int .i64 b) ∧ w.cell? ⟨n, 2, none⟩ = some (.int .i64 c) ∧ w.cell? ⟨n, 3, none⟩ = some (.int .i64 d) ∧ w.cell? ⟨n, 4, none⟩ = some (.int .i64 k)) ∧
  (w.frozen? ⟨n, 0, none⟩ = false ∧ w.frozen? ⟨n, 1, none⟩ = false ∧ w.frozen? ⟨n, 2, none⟩ = false ∧ w.frozen? ⟨n, 3, none⟩ = false ∧ w.frozen? ⟨n, 4, none⟩ = false)

theorem Has4.keep {w w1 : World} {n : Nat} {a b c d : Int} (h : Has4 w n a b c d) (hb : Below w.heap.size w w1) (hn : n < w.heap.size) : Has4 w1 n a b c d := by
  obtain ⟨k1, k2⟩ := bcell hb
  unfold Has4 at *
  simpa only [k1 _ _ hn, k2 _ _ hn] using h
theorem Has5.keep {w w1 : World} {n : Nat} {a b c d k : Int} (h : Has5 w n a b c d k) (hb : Below w.heap.size w w1) (hn : n < w.heap.size) : Has5 w1 n a b c d k := by
  obtain ⟨k1, k2⟩ := bcell hb
  unfold Has5 at *
  simpa only [k1 _ _ hn, k2 _ _ hn] using h
theorem w64_half {t : Int} (h1 : -9223372036854775808 ≤ t) (h2 : t ≤ 9223372036854775807) : wrap64 (t.tdiv 2) = t.tdiv 2 := by
  have h : -9223372036854775808 ≤ t.tdiv 2 ∧ t.tdiv 2 ≤ 9223372036854775807 := by
    rw [Int.tdiv_eq_ediv]
    split
    · omega
    · have : Int.sign 2 = 1 := rfl
      rw [this]; omega
  exact IntWalk.wrap64_in _ (by omega)
def Ret5 (s : Nm × Int) : Ending := .returned (.tuple #[.agg #[.int .i64 s.1.v.a, .int .i64 s.1.v.b, .int .i64 s.1.v.c, .int .i64 s.1.v.d, .int .i64 s.1.k], .int .i64 s.2])

set_option maxHeartbeats 1000000 in
theorem reduced_any (a b c d : Int) (k : Nat) (w : World) (h : big 4611686018427387903 ⟨a, b, c, d⟩) (hk : k ≤ 10000) :
    Calls Try.prog 110 #[.agg #[.int .i64 a, .int .i64 b, .int .i64 c, .int .i64 d], .int .i64 k] w fun e w' => e = Ret5 (made ⟨a, b, c, d⟩ k) ∧ Below w.heap.size w w' := by
  go_enter Try.func110, Try.ntmps110
  go_wp2
  go_loopw [1] (fun kk wr => ∃ (x y z u : Int) (j : Nat), kk = .int .i64 j ∧ j ≤ 10000 ∧ big 4611686018427387903 ⟨x, y, z, u⟩ ∧ red ⟨x, y, z, u⟩ j = red ⟨a, b, c, d⟩ k ∧ w.heap.size + 1 < wr.heap.size ∧ Has4 wr w.heap.size x y z u ∧ Has5 wr (w.heap.size + 1) 0 0 0 0 0 ∧ Below w.heap.size w wr)
    (fun kk _ => (intOf kk).toNat)
  case atStart => 
    refine ⟨a, b, c, d, k, rfl, hk, h, rfl, ?_, ?_, ?_, ?_⟩
    · simp
    · refine ⟨⟨?_, ?_, ?_, ?_⟩, ?_, ?_, ?_, ?_⟩ <;> go_cell
    · refine ⟨⟨?_, ?_, ?_, ?_, ?_⟩, ?_, ?_, ?_, ?_, ?_⟩ <;> go_cell
    · go_grown
  case round =>
    obtain ⟨x, y, z, u, j, rfl, hj, hbg, hred, hsz, H4, H5, hbel⟩ := hrel
    have HR := Lib.hid hred
    clear hred
    have P4 := H4
    have P5 := H5
    obtain ⟨⟨c0, c1, c2, c3⟩, f0, f1, f2, f3⟩ := P4
    obtain ⟨⟨g0, g1, g2, g3, g4⟩, e0, e1, e2, e3, e4⟩ := P5
    cases j with
    | zero =>
      go_wp2_with fail
      have A5 : Has5 (wr.alloc (.cells #[.int .i64 x, .int .i64 y, .int .i64 z, .int .i64 u, .int .i64 (0)] 69)) wr.heap.size x y z u (0) := by refine ⟨⟨?_, ?_, ?_, ?_, ?_⟩, ?_, ?_, ?_, ?_, ?_⟩ <;> go_cell
      have B5 : Has5 (wr.alloc (.cells #[.int .i64 x, .int .i64 y, .int .i64 z, .int .i64 u, .int .i64 (0)] 69)) (w.heap.size + 1) 0 0 0 0 0 := by refine ⟨⟨?_, ?_, ?_, ?_, ?_⟩, ?_, ?_, ?_, ?_, ?_⟩ <;> go_cell
      have hbW : Below w.heap.size w (wr.alloc (.cells #[.int .i64 x, .int .i64 y, .int .i64 z, .int .i64 u, .int .i64 (0)] 69)) := hbel.alloc (by omega) _
      cases hv : vld ⟨⟨x, y, z, u⟩, 0⟩
      · refine (Valid_any _ _ _ _ _ _).mono ?_
        rintro e wv ⟨rfl, hbv⟩
        obtain ⟨⟨p0, p1, p2, p3, p4⟩, _⟩ := A5.keep hbv (by simp)
        obtain ⟨⟨q0, q1, q2, q3, q4⟩, r0, r1, r2, r3, r4⟩ := B5.keep hbv (by simp; omega)
        have hszv : w.heap.size + 1 < wv.heap.size := by have := hbv.size; simp at this; omega
        have hbelv := hbW.trans (hbv.mono (by simp; omega))
        clear A5 B5 hbv hbW
        simp only [hv]
        go_wp2_with fail
        refine bodyPost_ret (v := .tuple #[.agg #[.int .i64 0, .int .i64 0, .int .i64 0, .int .i64 0, .int .i64 0], .int .i64 4]) (by simp [results, Try.results110, go_sem, *]) rfl ⟨?_, ?_⟩
        · rw [made_bad rfl HR.out hv]; rfl
        · go_grown
      · refine (Valid_any _ _ _ _ _ _).mono ?_
        rintro e wv ⟨rfl, hbv⟩
        obtain ⟨⟨p0, p1, p2, p3, p4⟩, _⟩ := A5.keep hbv (by simp)
        obtain ⟨⟨q0, q1, q2, q3, q4⟩, r0, r1, r2, r3, r4⟩ := B5.keep hbv (by simp; omega)
        have hszv : w.heap.size + 1 < wv.heap.size := by have := hbv.size; simp at this; omega
        have hbelv := hbW.trans (hbv.mono (by simp; omega))
        clear A5 B5 hbv hbW
        simp only [hv]
        go_wp2_with fail
        refine bodyPost_ret (v := .tuple #[.agg #[.int .i64 x, .int .i64 y, .int .i64 z, .int .i64 u, .int .i64 (0)], .int .i64 0]) (by simp [results, Try.results110, go_sem, *]) rfl ⟨?_, ?_⟩
        · rw [made_ok rfl HR.out hv]; rfl
        · go_grown
    | succ j =>
      cases hdv : dvb ⟨x, y, z, u⟩ with
      | false =>
        go_wp2_with fail
        refine (divisible_any _ _ _ _ _ hbg).mono ?_
        rintro e w1 ⟨rfl, hb1⟩
        have hbel1 := hbel.trans (hb1.mono (by omega))
        have hsz1 : w.heap.size + 1 < w1.heap.size := by have := hb1.size; omega
        obtain ⟨⟨c0', c1', c2', c3'⟩, f0', f1', f2', f3'⟩ := H4.keep hb1 (by omega)
        obtain ⟨⟨g0', g1', g2', g3', g4'⟩, e0', e1', e2', e3', e4'⟩ := H5.keep hb1 (by omega)
        clear hb1
        simp only [hdv]
        go_wp2_with fail
        have A5 : Has5 (w1.alloc (.cells #[.int .i64 x, .int .i64 y, .int .i64 z, .int .i64 u, .int .i64 ((j : Int) + 1)] 69)) w1.heap.size x y z u ((j : Int) + 1) := by refine ⟨⟨?_, ?_, ?_, ?_, ?_⟩, ?_, ?_, ?_, ?_, ?_⟩ <;> go_cell
        have B5 : Has5 (w1.alloc (.cells #[.int .i64 x, .int .i64 y, .int .i64 z, .int .i64 u, .int .i64 ((j : Int) + 1)] 69)) (w.heap.size + 1) 0 0 0 0 0 := by refine ⟨⟨?_, ?_, ?_, ?_, ?_⟩, ?_, ?_, ?_, ?_, ?_⟩ <;> go_cell
        have hbW : Below w.heap.size w (w1.alloc (.cells #[.int .i64 x, .int .i64 y, .int .i64 z, .int .i64 u, .int .i64 ((j : Int) + 1)] 69)) := hbel1.alloc (by omega) _
        cases hv : vld ⟨⟨x, y, z, u⟩, (j : Int) + 1⟩
        · refine (Valid_any _ _ _ _ _ _).mono ?_
          rintro e wv ⟨rfl, hbv⟩
          obtain ⟨⟨p0, p1, p2, p3, p4⟩, _⟩ := A5.keep hbv (by simp)
          obtain ⟨⟨q0, q1, q2, q3, q4⟩, r0, r1, r2, r3, r4⟩ := B5.keep hbv (by simp; omega)
          have hszv : w.heap.size + 1 < wv.heap.size := by have := hbv.size; simp at this; omega
          have hbelv := hbW.trans (hbv.mono (by simp; omega))
          clear A5 B5 hbv hbW
          simp only [hv]
          go_wp2_with fail
          refine bodyPost_ret (v := .tuple #[.agg #[.int .i64 0, .int .i64 0, .int .i64 0, .int .i64 0, .int .i64 0], .int .i64 4]) (by simp [results, Try.results110, go_sem, *]) rfl ⟨?_, ?_⟩
          · rw [made_bad (red_stop hdv) HR.out hv]; rfl
          · go_grown
        · refine (Valid_any _ _ _ _ _ _).mono ?_
          rintro e wv ⟨rfl, hbv⟩
          obtain ⟨⟨p0, p1, p2, p3, p4⟩, _⟩ := A5.keep hbv (by simp)
          obtain ⟨⟨q0, q1, q2, q3, q4⟩, r0, r1, r2, r3, r4⟩ := B5.keep hbv (by simp; omega)
          have hszv : w.heap.size + 1 < wv.heap.size := by have := hbv.size; simp at this; omega
          have hbelv := hbW.trans (hbv.mono (by simp; omega))
          clear A5 B5 hbv hbW
          simp only [hv]
          go_wp2_with fail
          refine bodyPost_ret (v := .tuple #[.agg #[.int .i64 x, .int .i64 y, .int .i64 z, .int .i64 u, .int .i64 ((j : Int) + 1)], .int .i64 0]) (by simp [results, Try.results110, go_sem, *]) rfl ⟨?_, ?_⟩
          · rw [made_ok (red_stop hdv) HR.out hv]; rfl
          · go_grown

      | true =>
        go_wp2_with fail
        refine (divisible_any _ _ _ _ _ hbg).mono ?_
        rintro e w1 ⟨rfl, hb1⟩
        have hbel1 := hbel.trans (hb1.mono (by omega))
        have hsz1 : w.heap.size + 1 < w1.heap.size := by have := hb1.size; omega
        have H4' := H4.keep hb1 (by omega)
        have H5' := H5.keep hb1 (by omega)
        have P4 := H4'
        obtain ⟨⟨c0', c1', c2', c3'⟩, f0', f1', f2', f3'⟩ := P4
        clear hb1
        simp only [hdv]
        go_wp2_with fail
        refine (timesRoot_any _ _ _ _ _ hbg).mono ?_
        rintro e w2 ⟨rfl, hb2⟩
        have hbel2 := hbel1.trans (hb2.mono (by omega))
        have hsz2 : w.heap.size + 1 < w2.heap.size := by have := hb2.size; omega
        obtain ⟨⟨c0'', c1'', c2'', c3''⟩, f0'', f1'', f2'', f3''⟩ := H4'.keep hb2 (by omega)
        have H5'' := H5'.keep hb2 (by omega)
        clear hb2 H4 H4' H5 H5' c0 c1 c2 c3 f0 f1 f2 f3 c0' c1' c2' c3' f0' f1' f2' f3' g0 g1 g2 g3 g4 e0 e1 e2 e3 e4
        obtain ⟨⟨g0, g1, g2, g3, g4⟩, e0, e1, e2, e3, e4⟩ := H5''
        go_wp2_with fail
        go_rounds 5
        have hb4 := half_big hbg
        have hw : wrap64 ((y - u).tdiv 2) = (y - u).tdiv 2 ∧ wrap64 ((x + z).tdiv 2) = (x + z).tdiv 2 ∧ wrap64 ((y + u).tdiv 2) = (y + u).tdiv 2 ∧ wrap64 ((z - x).tdiv 2) = (z - x).tdiv 2 := by
          obtain ⟨⟨a1, a2⟩, ⟨b1, b2⟩, ⟨c1, c2⟩, ⟨d1, d2⟩⟩ := hbg
          simp only at a1 a2 b1 b2 c1 c2 d1 d2
          exact ⟨w64_half (by omega) (by omega), w64_half (by omega) (by omega), w64_half (by omega) (by omega), w64_half (by omega) (by omega)⟩
        obtain ⟨hw0, hw1, hw2, hw3⟩ := hw
        simp only [hw0, hw1, hw2, hw3]
        clear hw0 hw1 hw2 hw3
        have hr4 := (red_step hdv).symm.trans HR.out
        go_roundw
        case rel =>
          refine ⟨(y - u).tdiv 2, (x + z).tdiv 2, (y + u).tdiv 2, (z - x).tdiv 2, j, rfl, by omega, hb4, hr4, ?_, ?_, ?_, ?_⟩
          · simp; omega
          · refine ⟨⟨?_, ?_, ?_, ?_⟩, ?_, ?_, ?_, ?_⟩ <;> go_cell
          · refine ⟨⟨?_, ?_, ?_, ?_, ?_⟩, ?_, ?_, ?_, ?_, ?_⟩ <;> go_cell
          · go_grown
        case measure => simp [intOf]
end Go.Proofs.Ytgbnpnenejgnnaa

namespace Go.Proofs.Ytgbnpnenejgnnaa
open Go.RowKit Amp
attribute [local go_sem] ix0 ix1 ix2 ix3 jx0 jx1 jx2 jx3

set_option maxHeartbeats 400000 in
theorem rEven_any (a b c d : Int) (w : World) (h : big 4611686018427387903 ⟨a, b, c, d⟩) :
    Calls Try.prog 161 #[.agg #[.int .i64 a, .int .i64 b, .int .i64 c, .int .i64 d]] w fun e w' => e = .returned (.bool (dvb ⟨a, b, c, d⟩)) ∧ Below w.heap.size w w' := by
  obtain ⟨⟨a1, a2⟩, ⟨b1, b2⟩, ⟨c1, c2⟩, ⟨d1, d2⟩⟩ := h
  simp only at a1 a2 b1 b2 c1 c2 d1 d2
  go_enter Try.func161, Try.ntmps161
  go_wp2
  all_goals
    go_returns
    exact ⟨by simp [dvb, *], by go_grown⟩
set_option maxHeartbeats 1000000 in
theorem rSmall_any (a b c d : Int) (w : World) :
    Calls Try.prog 160 #[.agg #[.int .i64 a, .int .i64 b, .int .i64 c, .int .i64 d]] w fun e w' => e = .returned (.bool (sm ⟨a, b, c, d⟩)) ∧ Below w.heap.size w w' := by
  go_enter Try.func160, Try.ntmps160
  go_wp2
  go_rounds 5
  all_goals
    go_returns
    exact ⟨congrArg (fun x => Ending.returned (.bool x)) (by simp [sm, smI]; first | omega | (simp [*]; done) | (simp [*]; omega)), by go_grown⟩
set_option maxHeartbeats 1000000 in
theorem rValidA_any (a b c d k : Int) (w : World) :
    Calls Try.prog 145 #[.agg #[.int .i64 a, .int .i64 b, .int .i64 c, .int .i64 d, .int .i64 k]] w fun e w' => e = .returned (.bool (vld ⟨⟨a, b, c, d⟩, k⟩)) ∧ Below w.heap.size w w' := by
  cases hs : sm ⟨a, b, c, d⟩
  · go_enter Try.func145, Try.ntmps145
    go_wp2_with fail
    refine (rSmall_any _ _ _ _ _).mono ?_
    rintro e w1 ⟨rfl, hb1⟩
    simp only [hs]
    go_wp2_with fail
    go_returns
    exact ⟨by simp [vld, hs], ((Below.refl _ _).alloc (Nat.le_refl _) _).trans (hb1.mono (by simp))⟩
  · have hb := (sm_iff _).1 hs
    have hb' : big 4611686018427387903 ⟨a, b, c, d⟩ := by
      obtain ⟨⟨a1, a2⟩, ⟨b1, b2⟩, ⟨c1, c2⟩, ⟨d1, d2⟩⟩ := hb
      simp only at a1 a2 b1 b2 c1 c2 d1 d2
      exact ⟨⟨by simp only; omega, by simp only; omega⟩, ⟨by simp only; omega, by simp only; omega⟩, ⟨by simp only; omega, by simp only; omega⟩, ⟨by simp only; omega, by simp only; omega⟩⟩
    go_enter Try.func145, Try.ntmps145
    go_wp2_with fail
    have A5 : Has5 (w.alloc (.cells #[.int .i64 a, .int .i64 b, .int .i64 c, .int .i64 d, .int .i64 k] 69)) w.heap.size a b c d k := by refine ⟨⟨?_, ?_, ?_, ?_, ?_⟩, ?_, ?_, ?_, ?_, ?_⟩ <;> go_cell
    refine (rSmall_any _ _ _ _ _).mono ?_
    rintro e w1 ⟨rfl, hb1⟩
    have B5 := A5.keep hb1 (by simp)
    have hsz1 : w.heap.size < w1.heap.size := by have := hb1.size; simp at this; omega
    have hbel : Below w.heap.size w w1 := ((Below.refl _ _).alloc (Nat.le_refl _) _).trans (hb1.mono (by simp))
    clear hb1 A5
    obtain ⟨⟨p0, p1, p2, p3, p4⟩, q0, q1, q2, q3, q4⟩ := B5
    simp only [hs]
    go_wp2_with (go_at_call 161; refine (rEven_any _ _ _ _ _ hb').mono ?_; rintro e w2 ⟨rfl, hb2⟩)
    all_goals
      go_returns
      refine ⟨congrArg (fun x => Ending.returned (.bool x)) ?_, by first | (with_reducible exact hbel) | exact hbel.trans (hb2.mono (by omega))⟩
      simp only [vld, hs]
      cases dvb ⟨a, b, c, d⟩ <;> simp <;> omega
end Go.Proofs.Ytgbnpnenejgnnaa

namespace Go.Proofs.Ytgbnpnenejgnnaa
open Go.RowKit Amp
attribute [local go_sem] ix0 ix1 ix2 ix3 jx0 jx1 jx2 jx3

def Ret4 (s : C4 × Nat) : Ending := .returned (.tuple #[.agg #[.int .i64 s.1.a, .int .i64 s.1.b, .int .i64 s.1.c, .int .i64 s.1.d], .int .i64 s.2])

end Go.Proofs.Ytgbnpnenejgnnaa

namespace Go
section
variable {P : Program} (w : World)
theorem run_equalIn_arr4 (d : Nat) {t e : TypeId} {k : IntKind} (a0 a1 a2 a3 b0 b1 b2 b3 : Int) (ht : P.underlying t = some (.array 4 e)) (he : P.underlying e = some (.int k)) (hs : ∀ w, (sizeOf e).run P w = .ok 1 w) :
    (Op.equalIn (d + 2) t (.agg #[.int k a0, .int k a1, .int k a2, .int k a3]) (.agg #[.int k b0, .int k b1, .int k b2, .int k b3])).run P w = .ok (a0 == b0 && (a1 == b1 && (a2 == b2 && a3 == b3))) w := by
  rw [Op.equalIn]
  simp only [Sem.run_bind, run_underlying ht, Result.andThen_ok, hs]
  simp only [Std.Legacy.Range.forIn_eq_forIn_range', Std.Legacy.Range.size, List.range', List.forIn_cons, List.forIn_nil, Sem.run_bind, Nat.mul_one]
  have ha : ∀ w, (isAgg e).run P w = .ok false w := fun w => by simp [isAgg, run_underlying he]
  have hq : ∀ w a b, (Op.equalIn (d + 1) e (.int k a) (.int k b)).run P w = .ok (a == b) w := fun w a b => run_equalIn_int w d e k k a b he
  cases h0 : a0 == b0 <;> cases h1 : a1 == b1 <;> cases h2 : a2 == b2 <;> cases h3 : a3 == b3 <;> simp [ha, hq, h0, h1, h2, h3, go_sem]
end
end Go
namespace Go.Proofs.Ytgbnpnenejgnnaa
theorem map_two {α β : Type} {F : α → β} {l : List α} {a b : β} (h : l.map F = [a, b]) : ∃ f g, l = [f, g] ∧ F f = a ∧ F g = b := by
  cases l with
  | nil => simp at h
  | cons f l =>
    cases l with
    | nil => simp at h
    | cons g l =>
      cases l with
      | nil => simp at h; exact ⟨f, g, rfl, h.1, h.2⟩
      | cons x l => simp at h
theorem run_eqNum (a0 a1 a2 a3 a4 b0 b1 b2 b3 b4 : Int) (w : World) :
    (binOp .eql 69 (.agg #[.int .i64 a0, .int .i64 a1, .int .i64 a2, .int .i64 a3, .int .i64 a4]) (.agg #[.int .i64 b0, .int .i64 b1, .int .i64 b2, .int .i64 b3, .int .i64 b4])).run Try.prog w = .ok (.bool (a0 == b0 && (a1 == b1 && (a2 == b2 && (a3 == b3 && a4 == b4))))) w := by
  have h4 : ∀ w, (Op.equalIn 9999 67 (.agg #[.int .i64 a0, .int .i64 a1, .int .i64 a2, .int .i64 a3]) (.agg #[.int .i64 b0, .int .i64 b1, .int .i64 b2, .int .i64 b3])).run Try.prog w = .ok (a0 == b0 && (a1 == b1 && (a2 == b2 && a3 == b3))) w :=
    fun w => run_equalIn_arr4 w 9997 a0 a1 a2 a3 b0 b1 b2 b3 Try.underlying67 Try.underlying3 (fun w => by kernel_rfl)
  have h5 : ∀ w, (Op.equalIn 9999 3 (.int .i64 a4) (.int .i64 b4)).run Try.prog w = .ok (a4 == b4) w := fun w => run_equalIn_int w 9998 3 .i64 .i64 a4 b4 Try.underlying3
  rw [run_eql_struct, run_equalIn_agg w 9999 69 _ _ (by kernel_rfl) (by kernel_rfl)]
  have hf : ((Try.prog.fieldsOf 69).toList.map fun f => (f.name, f.type, f.offset)) = [("A", 67, 0), ("K", 3, 4)] := by kernel_rfl
  obtain ⟨f, g, hl, hf1, hg1⟩ := map_two hf
  simp only [Prod.mk.injEq] at hf1 hg1
  obtain ⟨f1, f2, f3⟩ := hf1
  obtain ⟨g1, g2, g3⟩ := hg1
  have hp : ∀ w (x0 x1 x2 x3 x4 : Value), (part 67 #[x0, x1, x2, x3, x4] 0).run Try.prog w = .ok (.agg #[x0, x1, x2, x3]) w := fun _ _ _ _ _ _ => by kernel_rfl
  have hk : ∀ w (x0 x1 x2 x3 x4 : Value), (part 3 #[x0, x1, x2, x3, x4] 4).run Try.prog w = .ok x4 w := fun _ _ _ _ _ _ => by kernel_rfl
  rw [hl, Op.eqFields, f1, f2, f3]
  simp only [ne_eq, show ¬ ("A" : String) = "_" from by decide, not_false_eq_true, if_true, Sem.run_bind, hp, h4, Result.andThen_ok]
  cases hh : (a0 == b0 && (a1 == b1 && (a2 == b2 && a3 == b3)))
  · simp at hh ⊢
    exact fun c0 c1 c2 c3 => absurd c3 (hh c0 c1 c2)
  · simp only [Bool.not_true, Bool.false_eq_true, if_false]
    rw [Op.eqFields, g1, g2, g3]
    simp only [ne_eq, show ¬ ("K" : String) = "_" from by decide, not_false_eq_true, if_true, Sem.run_bind, hk, h5, Result.andThen_ok]
    simp only [Bool.and_eq_true] at hh
    rw [hh.1, hh.2.1, hh.2.2.1, hh.2.2.2]
    cases a4 == b4 <;> simp [Op.eqFields]
theorem run_neNum (a0 a1 a2 a3 a4 b0 b1 b2 b3 b4 : Int) (w : World) :
    (binOp .neq 69 (.agg #[.int .i64 a0, .int .i64 a1, .int .i64 a2, .int .i64 a3, .int .i64 a4]) (.agg #[.int .i64 b0, .int .i64 b1, .int .i64 b2, .int .i64 b3, .int .i64 b4])).run Try.prog w = .ok (.bool (!(a0 == b0 && (a1 == b1 && (a2 == b2 && (a3 == b3 && a4 == b4)))))) w := by
  have h := run_eqNum a0 a1 a2 a3 a4 b0 b1 b2 b3 b4 w
  rw [run_eql_struct] at h
  rw [run_neq_struct]
  generalize (Op.equalIn 10000 69 (.agg #[.int .i64 a0, .int .i64 a1, .int .i64 a2, .int .i64 a3, .int .i64 a4]) (.agg #[.int .i64 b0, .int .i64 b1, .int .i64 b2, .int .i64 b3, .int .i64 b4])).run Try.prog w = r at *
  cases r with
  | ok b w1 =>
    simp only [Result.andThen_ok, Result.ok.injEq, Value.bool.injEq] at h ⊢
    rw [h.1, h.2]; exact ⟨rfl, rfl⟩
  | halt x w1 => simp [Result.andThen] at h
end Go.Proofs.Ytgbnpnenejgnnaa

namespace Go.Proofs.Ytgbnpnenejgnnaa
open Go.RowKit Amp
attribute [local go_sem] ix0 ix1 ix2 ix3 jx0 jx1 jx2 jx3
attribute [local go_sem] run_eqNum run_neNum

end Go.Proofs.Ytgbnpnenejgnnaa
