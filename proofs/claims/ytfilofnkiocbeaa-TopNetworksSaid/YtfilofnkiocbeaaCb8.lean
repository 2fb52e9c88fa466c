import Derived.Test.YtfilofnkiocbeaaBa8
namespace Ben
/-- A number of n bits. -/
def ofB (f : Nat → Bool) : Nat → Nat
  | 0 => 0
  | n + 1 => ofB f n + (if f n = true then 2 ^ n else 0)
/-- Bit j of a number. -/
def bt (a j : Nat) : Bool := decide (a / 2 ^ j % 2 = 1)
theorem ofB_lt (f : Nat → Bool) : ∀ n, ofB f n < 2 ^ n
  | 0 => by simp [ofB]
  | n + 1 => by
    have := ofB_lt f n
    simp only [ofB, Nat.pow_succ]
    split <;> omega
theorem bt_add_high {a n j : Nat} (h : j < n) : bt (a + 2 ^ n) j = bt a j := by
  unfold bt
  obtain ⟨d, rfl⟩ : ∃ d, n = j + 1 + d := ⟨n - (j + 1), by omega⟩
  have e : a + 2 ^ (j + 1 + d) = a + 2 ^ j * (2 * 2 ^ d) := by rw [Nat.pow_add, Nat.pow_succ]; rw [Nat.mul_assoc]
  rw [e, Nat.add_mul_div_left _ _ (Nat.two_pow_pos _)]
  congr 1
  rw [Nat.add_mul_mod_self_left]
theorem bt_ofB (f : Nat → Bool) : ∀ {n j : Nat}, j < n → bt (ofB f n) j = f j
  | 0, _, h => by omega
  | n + 1, j, h => by
    have hl := ofB_lt f n
    simp only [ofB]
    by_cases e : j = n
    · subst e
      unfold bt
      by_cases hf : f j = true
      · rw [if_pos hf, hf, Nat.add_div_right _ (Nat.two_pow_pos _), Nat.div_eq_of_lt hl]; rfl
      · rw [if_neg hf, Nat.add_zero, Nat.div_eq_of_lt hl]
        cases hb : f j
        · rfl
        · exact absurd hb hf
    · by_cases hf : f n = true
      · rw [if_pos hf, bt_add_high (by omega)]; exact bt_ofB f (by omega)
      · rw [if_neg hf, Nat.add_zero]; exact bt_ofB f (by omega)
theorem ofB_congr {f g : Nat → Bool} : ∀ {n : Nat}, (∀ j, j < n → f j = g j) → ofB f n = ofB g n
  | 0, _ => rfl
  | n + 1, h => by simp only [ofB]; rw [ofB_congr fun j hj => h j (by omega), h n (by omega)]
theorem ofB_bt : ∀ {n a : Nat}, a < 2 ^ n → ofB (bt a) n = a
  | 0, a, h => by simp only [ofB]; omega
  | n + 1, a, h => by
    rw [Nat.pow_succ] at h
    simp only [ofB]
    by_cases hb : a < 2 ^ n
    · have e : bt a n = false := by unfold bt; rw [Nat.div_eq_of_lt hb]; rfl
      rw [e, if_neg (by decide), Nat.add_zero]
      exact ofB_bt hb
    · obtain ⟨c, rfl⟩ : ∃ c, a = c + 2 ^ n := ⟨a - 2 ^ n, by omega⟩
      have hc : c < 2 ^ n := by omega
      have e : bt (c + 2 ^ n) n = true := by unfold bt; rw [Nat.add_div_right _ (Nat.two_pow_pos _), Nat.div_eq_of_lt hc]; rfl
      rw [e, if_pos rfl, ofB_congr (g := bt c) fun j hj => bt_add_high hj, ofB_bt hc]
theorem su_mul (f : Nat → Nat) (c n : Nat) : su (fun j => f j * c) n = su f n * c := by
  induction n with
  | zero => simp [su]
  | succ n ih => simp only [su]; rw [ih, Nat.add_mul]
theorem su_swap (f : Nat → Nat → Nat) (m n : Nat) : su (fun i => su (fun j => f i j) n) m = su (fun j => su (fun i => f i j) m) n := by
  induction m with
  | zero => exact (su_zero fun j _ => rfl).symm
  | succ m ih => simp only [su]; rw [ih, ← su_add]
/-- The sum over the chosen ones of the first A is the sum over those that are named one by one. -/
theorem su_bij {A M : Nat} {P : Nat → Bool} {g : Nat → Nat} {φ : Nat → Nat} (hin : ∀ m, m < M → φ m < A ∧ P (φ m) = true) (hinj : ∀ m m', m < M → m' < M → φ m = φ m' → m = m') (hsur : ∀ a, a < A → P a = true → ∃ m, m < M ∧ φ m = a) :
    su (fun a => if P a = true then g a else 0) A = su (fun m => g (φ m)) M := by
  have h1 : ∀ a, a < A → (if P a = true then g a else 0) = su (fun m => if φ m = a then g a else 0) M := by
    intro a ha
    by_cases hp : P a = true
    · rw [if_pos hp]
      obtain ⟨m, hm, e⟩ := hsur a ha hp
      have h2 : su (fun m => (if φ m = a then 1 else 0) * g a) M = 1 * g a := by
        rw [su_mul, su_one (f := fun m => if φ m = a then 1 else 0) hm (if_pos e) fun j hj hne => if_neg fun h => hne (hinj j m hj hm (by rw [h, e]))]
      rw [Nat.one_mul] at h2
      refine h2.symm.trans (su_congr fun j _ => ?_)
      by_cases hj : φ j = a
      · rw [if_pos hj, if_pos hj, Nat.one_mul]
      · rw [if_neg hj, if_neg hj, Nat.zero_mul]
    · rw [if_neg hp]
      exact (su_zero fun m hm => if_neg fun h => hp (by rw [← h]; exact (hin m hm).2)).symm
  rw [su_congr h1, su_swap]
  refine su_congr fun m hm => ?_
  obtain ⟨hA, _⟩ := hin m hm
  have h3 : su (fun a => (if φ m = a then 1 else 0) * g (φ m)) A = 1 * g (φ m) := by
    rw [su_mul, su_one (f := fun a => if φ m = a then 1 else 0) hA (if_pos rfl) fun j _ hne => if_neg fun h => hne h.symm]
  rw [Nat.one_mul] at h3
  rw [← h3]
  refine su_congr fun a _ => ?_
  by_cases e : φ m = a
  · rw [if_pos e, if_pos e, e, Nat.one_mul]
  · rw [if_neg e, if_neg e, Nat.zero_mul]
/-- The other port of an outer switch. -/
def pt (x : Nat) : Nat := if x % 2 = 0 then x + 1 else x - 1
theorem pt_pt (x : Nat) : pt (pt x) = x := by unfold pt; split <;> split <;> omega
theorem pt_lt {x h : Nat} (hx : x < 2 * h) : pt x < 2 * h := by unfold pt; split <;> omega
theorem pt_div (x : Nat) : pt x / 2 = x / 2 := by unfold pt; split <;> omega
/-- Sides from which no outer switch gets, or sends, both its lights: p is the permutation, q its inverse. -/
def Good (h : Nat) (q : Nat → Nat) (σ : Nat → Bool) : Prop := (∀ x, x < 2 * h → σ (pt x) = !σ x) ∧ ∀ y, y < 2 * h → σ (q (pt y)) = !σ (q y)
/-- The loops of a permutation: the number of each input's loop, and whether it stands at an odd place; s i is where loop i begins. -/
def Loops (h L : Nat) (q : Nat → Nat) (id : Nat → Nat) (par : Nat → Bool) (s : Nat → Nat) : Prop :=
  (∀ x, x < 2 * h → id x < L ∧ id (pt x) = id x ∧ par (pt x) = !par x) ∧ (∀ y, y < 2 * h → id (q (pt y)) = id (q y) ∧ par (q (pt y)) = !par (q y)) ∧
    (∀ i, i < L → s i < 2 * h ∧ id (s i) = i ∧ par (s i) = false) ∧ ∀ σ, Good h q σ → ∀ x, x < 2 * h → σ x = (σ (s (id x)) ^^ par x)
/-- The sides that a number gives. -/
def sdN (id : Nat → Nat) (par : Nat → Bool) (m : Nat) : Nat → Bool := fun x => (bt m (id x) ^^ par x)
theorem good_sdN {h L : Nat} {q id : Nat → Nat} {par : Nat → Bool} {s : Nat → Nat} (H : Loops h L q id par s) (m : Nat) : Good h q (sdN id par m) := by
  obtain ⟨a, b, _, _⟩ := H
  constructor
  · intro x hx
    obtain ⟨_, h1, h2⟩ := a x hx
    unfold sdN
    rw [h1, h2]
    cases bt m (id x) <;> cases par x <;> rfl
  · intro y hy
    obtain ⟨h1, h2⟩ := b y hy
    unfold sdN
    rw [h1, h2]
    cases bt m (id (q y)) <;> cases par (q y) <;> rfl
/-- The sides of the inputs for settings of the first switches. -/
def sdF (a : Nat → Bool) : Nat → Bool := fun x => (a (x / 2) ^^ decide (x % 2 = 1))
theorem sdF_pt (a : Nat → Bool) (x : Nat) : sdF a (pt x) = !sdF a x := by
  unfold sdF
  rw [pt_div]
  unfold pt
  by_cases e : x % 2 = 0
  · rw [if_pos e, decide_eq_true (show (x + 1) % 2 = 1 by omega), decide_eq_false (show ¬ x % 2 = 1 by omega)]; cases a (x / 2) <;> rfl
  · rw [if_neg e, decide_eq_false (show ¬ (x - 1) % 2 = 1 by omega), decide_eq_true (show x % 2 = 1 by omega)]; cases a (x / 2) <;> rfl
/-- The settings of the first switches for sides of the inputs. -/
def stF (σ : Nat → Bool) : Nat → Bool := fun j => σ (2 * j)
theorem sdF_stF {h : Nat} {q : Nat → Nat} {σ : Nat → Bool} (H : Good h q σ) {x : Nat} (hx : x < 2 * h) : sdF (stF σ) x = σ x := by
  unfold sdF stF
  by_cases e : x % 2 = 0
  · rw [decide_eq_false (by omega), show 2 * (x / 2) = x by omega]; cases σ x <;> rfl
  · have h1 := H.1 (2 * (x / 2)) (by omega)
    have h2 : pt (2 * (x / 2)) = x := by unfold pt; rw [if_pos (by omega)]; omega
    rw [h2] at h1
    rw [decide_eq_true (by omega), h1]
    cases σ (2 * (x / 2)) <;> rfl
/-- The number of the settings of the first switches for the number of a choice. -/
def nuF (h : Nat) (id : Nat → Nat) (par : Nat → Bool) (m : Nat) : Nat := ofB (stF (sdN id par m)) h
/-- Are settings of the first switches such that the last ones can be set? -/
def vaF (h : Nat) (q : Nat → Nat) (a : Nat) : Bool := decide (∀ y, y < 2 * h → sdF (bt a) (q (pt y)) = !sdF (bt a) (q y))
theorem sd_nu {h L : Nat} {q id : Nat → Nat} {par : Nat → Bool} {s : Nat → Nat} (H : Loops h L q id par s) {m x : Nat} (hx : x < 2 * h) : sdF (bt (nuF h id par m)) x = sdN id par m x := by
  rw [← sdF_stF (good_sdN H m) hx]
  unfold sdF nuF
  rw [bt_ofB _ (by omega)]
/-- All settings of the first switches that leave the last ones possible are the choices, each once. -/
theorem choices_all {h L : Nat} {q id : Nat → Nat} {par : Nat → Bool} {s : Nat → Nat} (H : Loops h L q id par s) (hq : ∀ y, y < 2 * h → q y < 2 * h) (g : Nat → Nat) :
    su (fun a => if vaF h q a = true then g a else 0) (2 ^ h) = su (fun m => g (nuF h id par m)) (2 ^ L) := by
  refine su_bij (fun m hm => ⟨ofB_lt _ _, decide_eq_true fun y hy => ?_⟩) (fun m m' hm hm' e => ?_) (fun a ha hp => ?_)
  · rw [sd_nu H (hq _ (pt_lt hy)), sd_nu H (hq y hy)]
    exact (good_sdN H m).2 y hy
  · rw [← ofB_bt hm, ← ofB_bt hm']
    refine ofB_congr fun i hi => ?_
    obtain ⟨h1, h2, h3⟩ := H.2.2.1 i hi
    have e1 := sd_nu (m := m) H h1
    have e2 := sd_nu (m := m') H h1
    rw [e, e2] at e1
    unfold sdN at e1
    rw [h2, h3] at e1
    revert e1
    cases bt m i <;> cases bt m' i <;> simp
  · have hp := of_decide_eq_true hp
    have hg : Good h q (sdF (bt a)) := ⟨fun x _ => sdF_pt _ x, hp⟩
    refine ⟨ofB (fun i => sdF (bt a) (s i)) L, ofB_lt _ _, ?_⟩
    unfold nuF
    refine (ofB_congr fun j hj => ?_).trans (ofB_bt ha)
    have h1 := H.2.2.2 _ hg (2 * j) (by omega)
    have h2 := (H.1 (2 * j) (by omega)).1
    unfold stF sdN
    rw [bt_ofB _ h2, ← h1]
    unfold sdF
    rw [show 2 * j / 2 = j by omega, decide_eq_false (show ¬ 2 * j % 2 = 1 by omega)]
    cases bt a j <;> rfl
end Ben
