namespace Ben
/-- Ports of a network of k + 1 levels. -/
def sz : Nat → Nat
  | 0 => 2
  | k + 1 => 2 * sz k
/-- Switches of it. -/
def cn : Nat → Nat
  | 0 => 1
  | k + 1 => sz (k + 1) + 2 * cn k
/-- Switches on a way. -/
def dp (k : Nat) : Nat := 2 * k + 1
/-- Where a switch sends light. -/
def fl (b : Bool) (i : Nat) : Nat := if b then 1 - i else i
/-- Where light comes out; b is the first switch. -/
def out (s : Nat → Bool) : Nat → Nat → Nat → Nat
  | 0, b, i => fl (s b) i
  | k + 1, b, i => 2 * out s k (b + sz (k + 1) + fl (s (b + i / 2)) (i % 2) * cn k) (i / 2) + fl (s (b + sz k + out s k (b + sz (k + 1) + fl (s (b + i / 2)) (i % 2) * cn k) (i / 2))) (fl (s (b + i / 2)) (i % 2))
/-- Which switches it meets. -/
def met (s : Nat → Bool) : Nat → Nat → Nat → List Nat
  | 0, b, _ => [b]
  | k + 1, b, i => (b + i / 2) :: (met s k (b + sz (k + 1) + fl (s (b + i / 2)) (i % 2) * cn k) (i / 2) ++ [b + sz k + out s k (b + sz (k + 1) + fl (s (b + i / 2)) (i % 2) * cn k) (i / 2)])
/-- A list of whole numbers as a function. -/
def fn (l : List Nat) : Nat → Int := fun j => ((l.getD j 0 : Nat) : Int)
theorem sz_pos (k : Nat) : 2 ≤ sz k := by induction k with
  | zero => decide
  | succ k ih => simp only [sz]; omega
theorem cn_pos (k : Nat) : 1 ≤ cn k := by cases k with
  | zero => decide
  | succ k => simp only [cn]; have := sz_pos (k + 1); omega
theorem fl_lt {b : Bool} {i : Nat} (h : i < 2) : fl b i < 2 := by unfold fl; split <;> omega
theorem fl_fl {b : Bool} {i : Nat} (h : i < 2) : fl b (fl b i) = i := by unfold fl; split <;> omega
theorem fl_inj {b : Bool} {i j : Nat} (hi : i < 2) (hj : j < 2) (h : fl b i = fl b j) : i = j := by unfold fl at h; split at h <;> omega
theorem met_len (s : Nat → Bool) : ∀ (k b i : Nat), (met s k b i).length = dp k := by
  intro k
  induction k with
  | zero => intro b i; rfl
  | succ k ih => intro b i; simp only [met, List.length_cons, List.length_append, ih, List.length_nil, dp]; omega
theorem out_lt (s : Nat → Bool) : ∀ (k b i : Nat), i < sz k → out s k b i < sz k := by
  intro k
  induction k with
  | zero => intro b i h; exact fl_lt h
  | succ k ih =>
    intro b i h
    simp only [out]
    have h1 : i / 2 < sz k := by simp only [sz] at h; omega
    have h2 := ih (b + sz (k + 1) + fl (s (b + i / 2)) (i % 2) * cn k) (i / 2) h1
    have h3 := @fl_lt (s (b + sz k + out s k (b + sz (k + 1) + fl (s (b + i / 2)) (i % 2) * cn k) (i / 2))) (fl (s (b + i / 2)) (i % 2)) (fl_lt (by omega))
    simp only [sz] at h h2 h3 ⊢
    omega
/-- Half a network lies within the whole. -/
theorem half_in {k q : Nat} (h : q < 2) : sz (k + 1) + q * cn k + cn k ≤ cn (k + 1) := by
  show _ ≤ sz (k + 1) + 2 * cn k
  have : q * cn k ≤ 1 * cn k := Nat.mul_le_mul_right _ (by omega)
  omega
theorem met_in (s : Nat → Bool) : ∀ (k b i : Nat), i < sz k → ∀ x ∈ met s k b i, b ≤ x ∧ x < b + cn k := by
  intro k
  induction k with
  | zero =>
    intro b i _ x hx
    simp only [met, List.mem_singleton] at hx
    subst hx
    exact ⟨Nat.le_refl _, by simp [cn]⟩
  | succ k ih =>
    intro b i hi x hx
    have h1 : i / 2 < sz k := by simp only [sz] at hi; omega
    have hq := @fl_lt (s (b + i / 2)) (i % 2) (by omega)
    simp only [met, List.mem_cons, List.mem_append, List.not_mem_nil, or_false] at hx
    have hs : sz (k + 1) = 2 * sz k := rfl
    have hc : cn (k + 1) = sz (k + 1) + 2 * cn k := rfl
    have hp := cn_pos k
    rcases hx with rfl | hx | rfl
    · omega
    · have := ih _ _ h1 x hx
      have := @half_in k _ hq
      omega
    · have h2 := out_lt s k (b + sz (k + 1) + fl (s (b + i / 2)) (i % 2) * cn k) (i / 2) h1
      omega
/-- The switches count up by their own part alone. -/
theorem out_congr {s t : Nat → Bool} : ∀ (k b i : Nat), i < sz k → (∀ j, b ≤ j → j < b + cn k → s j = t j) → out s k b i = out t k b i ∧ met s k b i = met t k b i := by
  intro k
  induction k with
  | zero =>
    intro b i _ h
    have e := h b (by omega) (by simp [cn])
    exact ⟨by simp only [out]; rw [e], rfl⟩
  | succ k ih =>
    intro b i hi h
    have h1 : i / 2 < sz k := by simp only [sz] at hi; omega
    have hs : sz (k + 1) = 2 * sz k := rfl
    have hc : cn (k + 1) = sz (k + 1) + 2 * cn k := rfl
    have hp := cn_pos k
    have e1 := h (b + i / 2) (by omega) (by omega)
    have hq := @fl_lt (s (b + i / 2)) (i % 2) (by omega)
    have hh := @half_in k _ hq
    obtain ⟨e2, e3⟩ := ih (b + sz (k + 1) + fl (s (b + i / 2)) (i % 2) * cn k) (i / 2) h1 (fun j a c => h j (by omega) (by omega))
    have h2 := out_lt s k (b + sz (k + 1) + fl (s (b + i / 2)) (i % 2) * cn k) (i / 2) h1
    have e4 := h (b + sz k + out s k (b + sz (k + 1) + fl (s (b + i / 2)) (i % 2) * cn k) (i / 2)) (by omega) (by omega)
    simp only [out, met]
    rw [← e1, ← e2, ← e3, ← e4]
    exact ⟨rfl, rfl⟩
/-- Is a number one of ports? -/
def isP (n : Int) : Bool := n == 2 || n == 4 || n == 8 || n == 16
/-- Its level. -/
def lv (n : Int) : Nat := if n = 2 then 0 else if n = 4 then 1 else if n = 8 then 2 else 3
theorem isP_iff {n : Int} : isP n = true ↔ n = 2 ∨ n = 4 ∨ n = 8 ∨ n = 16 := by simp [isP, or_assoc]
theorem isP_sz {n : Int} (h : isP n = true) : n = (sz (lv n) : Int) ∧ lv n ≤ 3 := by
  rcases isP_iff.1 h with rfl | rfl | rfl | rfl <;> decide
/-- Which switch stands at a place of the mirror. -/
def mi : Nat → Nat → Nat
  | 0, j => j
  | k + 1, j => if j < sz k then sz k + j else if j < sz (k + 1) then j - sz k else if j < sz (k + 1) + cn k then sz (k + 1) + mi k (j - sz (k + 1)) else sz (k + 1) + cn k + mi k (j - sz (k + 1) - cn k)
theorem mi_lt : ∀ (k j : Nat), j < cn k → mi k j < cn k := by
  intro k
  induction k with
  | zero => intro j h; exact h
  | succ k ih =>
    intro j h
    have hs : sz (k + 1) = 2 * sz k := rfl
    have hc : cn (k + 1) = sz (k + 1) + 2 * cn k := rfl
    simp only [mi]
    split
    · omega
    · split
      · omega
      · split
        · have := ih (j - sz (k + 1)) (by omega); omega
        · have := ih (j - sz (k + 1) - cn k) (by omega); omega
theorem mi_mi : ∀ (k j : Nat), j < cn k → mi k (mi k j) = j := by
  intro k
  induction k with
  | zero => intro j h; rfl
  | succ k ih =>
    intro j h
    have hs : sz (k + 1) = 2 * sz k := rfl
    have hc : cn (k + 1) = sz (k + 1) + 2 * cn k := rfl
    by_cases h1 : j < sz k
    · have e : mi (k + 1) j = sz k + j := by simp only [mi]; rw [if_pos h1]
      rw [e]; simp only [mi]; rw [if_neg (by omega), if_pos (by omega)]; omega
    · by_cases h2 : j < sz (k + 1)
      · have e : mi (k + 1) j = j - sz k := by simp only [mi]; rw [if_neg h1, if_pos h2]
        rw [e]; simp only [mi]; rw [if_pos (by omega)]; omega
      · by_cases h3 : j < sz (k + 1) + cn k
        · have e : mi (k + 1) j = sz (k + 1) + mi k (j - sz (k + 1)) := by simp only [mi]; rw [if_neg h1, if_neg h2, if_pos h3]
          have a := mi_lt k (j - sz (k + 1)) (by omega)
          have b := ih (j - sz (k + 1)) (by omega)
          rw [e]; simp only [mi]; rw [if_neg (by omega), if_neg (by omega), if_pos (by omega), Nat.add_sub_cancel_left, b]; omega
        · have e : mi (k + 1) j = sz (k + 1) + cn k + mi k (j - sz (k + 1) - cn k) := by simp only [mi]; rw [if_neg h1, if_neg h2, if_neg h3]
          have a := mi_lt k (j - sz (k + 1) - cn k) (by omega)
          have b := ih (j - sz (k + 1) - cn k) (by omega)
          rw [e]; simp only [mi]; rw [if_neg (by omega), if_neg (by omega), if_neg (by omega), show sz (k + 1) + cn k + mi k (j - sz (k + 1) - cn k) - sz (k + 1) - cn k = mi k (j - sz (k + 1) - cn k) by omega, b]; omega
theorem mi_first {k j : Nat} (h : j < sz k) : mi (k + 1) j = sz k + j := by simp only [mi]; rw [if_pos h]
theorem mi_last {k j : Nat} (h : j < sz k) : mi (k + 1) (sz k + j) = j := by
  have hs : sz (k + 1) = 2 * sz k := rfl
  simp only [mi]; rw [if_neg (by omega), if_pos (by omega)]; omega
theorem mi_half {k q j : Nat} (hq : q < 2) (h : j < cn k) : mi (k + 1) (sz (k + 1) + q * cn k + j) = sz (k + 1) + q * cn k + mi k j := by
  have hs : sz (k + 1) = 2 * sz k := rfl
  simp only [mi]
  have e : q = 0 ∨ q = 1 := by omega
  rcases e with rfl | rfl
  · rw [if_neg (by omega), if_neg (by omega), if_pos (by omega), show sz (k + 1) + 0 * cn k + j - sz (k + 1) = j by omega]; omega
  · rw [if_neg (by omega), if_neg (by omega), if_neg (by omega), show sz (k + 1) + 1 * cn k + j - sz (k + 1) - cn k = j by omega]; omega
/-- The mirror sends light back. -/
theorem back {s t : Nat → Bool} : ∀ (k b b' i : Nat), i < sz k → (∀ j, j < cn k → t (b' + j) = s (b + mi k j)) → out t k b' (out s k b i) = i := by
  intro k
  induction k with
  | zero =>
    intro b b' i hi h
    have e := h 0 (by simp [cn])
    simp only [mi, Nat.add_zero] at e
    simp only [out]
    rw [e]
    exact fl_fl hi
  | succ k ih =>
    intro b b' i hi h
    have hs : sz (k + 1) = 2 * sz k := rfl
    have hc : cn (k + 1) = sz (k + 1) + 2 * cn k := rfl
    have hp := cn_pos k
    have h1 : i / 2 < sz k := by omega
    obtain ⟨q, hq⟩ : ∃ q, fl (s (b + i / 2)) (i % 2) = q := ⟨_, rfl⟩
    have hq2 : q < 2 := by rw [← hq]; exact fl_lt (by omega)
    have hqb : fl (s (b + i / 2)) q = i % 2 := by rw [← hq]; exact fl_fl (by omega)
    obtain ⟨a, ha⟩ : ∃ a, out s k (b + sz (k + 1) + q * cn k) (i / 2) = a := ⟨_, rfl⟩
    have ha2 : a < sz k := by rw [← ha]; exact out_lt s k _ _ h1
    obtain ⟨z, hz⟩ : ∃ z, fl (s (b + sz k + a)) q = z := ⟨_, rfl⟩
    have hz2 : z < 2 := by rw [← hz]; exact fl_lt hq2
    have hzb : fl (s (b + sz k + a)) z = q := by rw [← hz]; exact fl_fl hq2
    have eo : out s (k + 1) b i = 2 * a + z := by simp only [out]; rw [hq, ha, hz]
    have hh := @half_in k q hq2
    have i1 := ih (b + sz (k + 1) + q * cn k) (b' + sz (k + 1) + q * cn k) (i / 2) h1 (fun j hj => by
      have := h (sz (k + 1) + q * cn k + j) (by omega)
      rw [mi_half hq2 hj] at this
      rw [show b' + sz (k + 1) + q * cn k + j = b' + (sz (k + 1) + q * cn k + j) by omega, this]
      congr 1; omega)
    rw [ha] at i1
    have e1 := h a (by omega)
    rw [mi_first ha2] at e1
    have e2 := h (sz k + i / 2) (by omega)
    rw [mi_last h1] at e2
    rw [eo]
    simp only [out]
    rw [show (2 * a + z) / 2 = a by omega, show (2 * a + z) % 2 = z by omega, e1, show b + (sz k + a) = b + sz k + a by omega, hzb, i1, show b' + sz k + i / 2 = b' + (sz k + i / 2) by omega, e2, hqb]
    omega
/-- The settings of the mirror. -/
def mir (s : Nat → Bool) (k b : Nat) : Nat → Bool := fun j => s (b + mi k (j - b))
theorem back_of (s : Nat → Bool) {k b i : Nat} (h : i < sz k) : out (mir s k b) k b (out s k b i) = i := back k b b i h fun j hj => by unfold mir; rw [Nat.add_sub_cancel_left]
theorem forth_of (s : Nat → Bool) {k b i : Nat} (h : i < sz k) : out s k b (out (mir s k b) k b i) = i := back k b b i h fun j hj => by unfold mir; rw [Nat.add_sub_cancel_left, mi_mi k j hj]
/-- A sum of the first n. -/
def su (f : Nat → Nat) : Nat → Nat
  | 0 => 0
  | n + 1 => su f n + f n
theorem su_add (f g : Nat → Nat) (n : Nat) : su (fun j => f j + g j) n = su f n + su g n := by
  induction n with
  | zero => rfl
  | succ n ih => simp only [su]; rw [ih]; omega
theorem su_two (f : Nat → Nat) (n : Nat) : su f (2 * n) = su (fun j => f (2 * j) + f (2 * j + 1)) n := by
  induction n with
  | zero => rfl
  | succ n ih => rw [show 2 * (n + 1) = 2 * n + 1 + 1 by omega]; simp only [su]; rw [ih]; omega
theorem su_congr {f g : Nat → Nat} {n : Nat} (h : ∀ j, j < n → f j = g j) : su f n = su g n := by
  induction n with
  | zero => rfl
  | succ n ih => simp only [su]; rw [ih fun j hj => h j (by omega), h n (by omega)]
theorem su_zero {f : Nat → Nat} {n : Nat} (h : ∀ j, j < n → f j = 0) : su f n = 0 := by
  induction n with
  | zero => rfl
  | succ n ih => simp only [su]; rw [ih fun j hj => h j (by omega), h n (by omega)]
theorem su_one {f : Nat → Nat} {n d : Nat} (hd : d < n) (h1 : f d = 1) (h : ∀ j, j < n → j ≠ d → f j = 0) : su f n = 1 := by
  induction n with
  | zero => omega
  | succ n ih =>
    simp only [su]
    by_cases e : d = n
    · subst e
      rw [su_zero fun j hj => h j (by omega) (by omega), h1]
    · rw [ih (by omega) fun j hj he => h j (by omega) he, h n (by omega) (fun e' => e e'.symm)]
/-- How often light of the first n inputs meets a switch. -/
def hits (s : Nat → Bool) (k b c n : Nat) : Nat := su (fun i => (met s k b i).count c) n
theorem out_hits (s : Nat → Bool) {k b d : Nat} (hd : d < sz k) : su (fun j => if out s k b j = d then 1 else 0) (sz k) = 1 := by
  have h1 : out (mir s k b) k b d < sz k := out_lt _ _ _ _ hd
  refine su_one h1 (if_pos (forth_of s hd)) fun j hj hne => if_neg fun e => hne ?_
  rw [← e, back_of s hj]
theorem cnt1 (c x : Nat) : [x].count c = if x = c then 1 else 0 := by
  by_cases h : x = c
  · subst h; rw [if_pos rfl]; simp
  · rw [if_neg h]; simp [h]
theorem su_mem (b c n : Nat) : su (fun j => if b + j = c then 1 else 0) n = if b ≤ c ∧ c < b + n then 1 else 0 := by
  by_cases h : b ≤ c ∧ c < b + n
  · rw [if_pos h]
    exact su_one (d := c - b) (by omega) (if_pos (by omega)) fun j hj hne => if_neg (by omega)
  · rw [if_neg h]
    exact su_zero fun j hj => if_neg (by omega)
/-- Each switch is met by the light of just two inputs. -/
theorem hits_two (s : Nat → Bool) : ∀ (k b c : Nat), b ≤ c → c < b + cn k → hits s k b c (sz k) = 2 := by
  intro k
  induction k with
  | zero =>
    intro b c h1 h2
    have : c = b := by simp only [cn] at h2; omega
    subst this
    simp [hits, sz, su, met]
  | succ k ih =>
    intro b c h1 h2
    have hs : sz (k + 1) = 2 * sz k := rfl
    have hc : cn (k + 1) = sz (k + 1) + 2 * cn k := rfl
    have hp := cn_pos k
    have hpair : ∀ j, j < sz k → (met s (k + 1) b (2 * j)).count c + (met s (k + 1) b (2 * j + 1)).count c = 2 * (if b + j = c then 1 else 0) + (((met s k (b + sz (k + 1)) j).count c + (met s k (b + sz (k + 1) + cn k) j).count c) + ((if b + sz k + out s k (b + sz (k + 1)) j = c then 1 else 0) + (if b + sz k + out s k (b + sz (k + 1) + cn k) j = c then 1 else 0))) := by
      intro j hj
      simp only [met]
      rw [show (2 * j) / 2 = j by omega, show (2 * j + 1) / 2 = j by omega, show (2 * j) % 2 = 0 by omega, show (2 * j + 1) % 2 = 1 by omega]
      have e : ∀ (x : Nat) (l : List Nat) (y : Nat), (x :: (l ++ [y])).count c = (if x = c then 1 else 0) + (l.count c + if y = c then 1 else 0) := by
        intro x l y
        rw [show x :: (l ++ [y]) = [x] ++ (l ++ [y]) from rfl, List.count_append, List.count_append, cnt1, cnt1]
      rw [e, e]
      cases hb : s (b + j) with
      | false => simp only [show fl false 0 = 0 from rfl, show fl false 1 = 1 from rfl, Nat.zero_mul, Nat.one_mul, Nat.add_zero]; omega
      | true => simp only [show fl true 0 = 1 from rfl, show fl true 1 = 0 from rfl, Nat.zero_mul, Nat.one_mul, Nat.add_zero]; omega
    unfold hits at ih ⊢
    rw [hs, su_two, su_congr hpair, su_add, su_add, su_add, su_add]
    have e2 : su (fun j => 2 * (if b + j = c then 1 else 0)) (sz k) = 2 * (if b ≤ c ∧ c < b + sz k then 1 else 0) := by
      rw [← su_mem]
      generalize sz k = m
      induction m with
      | zero => rfl
      | succ m ihm => simp only [su]; rw [ihm]; omega
    have e3 : ∀ b', su (fun j => (met s k b' j).count c) (sz k) = if b' ≤ c ∧ c < b' + cn k then 2 else 0 := by
      intro b'
      by_cases h : b' ≤ c ∧ c < b' + cn k
      · rw [if_pos h]; exact ih b' c h.1 h.2
      · rw [if_neg h]; exact su_zero fun j hj => List.count_eq_zero.2 fun hm => h (met_in s k b' j hj c hm)
    have e4 : ∀ b', su (fun j => if b + sz k + out s k b' j = c then 1 else 0) (sz k) = if b + sz k ≤ c ∧ c < b + sz k + sz k then 1 else 0 := by
      intro b'
      by_cases h : b + sz k ≤ c ∧ c < b + sz k + sz k
      · rw [if_pos h]
        refine (su_congr fun j hj => ?_).trans (out_hits s (k := k) (b := b') (d := c - (b + sz k)) (by omega))
        by_cases hh : out s k b' j = c - (b + sz k)
        · rw [if_pos hh, if_pos (by omega)]
        · rw [if_neg hh, if_neg (by omega)]
      · rw [if_neg h]
        exact su_zero fun j hj => if_neg (by have := out_lt s k b' j hj; omega)
    rw [e2, e3, e3, e4, e4]
    by_cases g1 : c < b + sz k
    · rw [if_pos (by omega), if_neg (by omega), if_neg (by omega), if_neg (by omega)]
    · by_cases g2 : c < b + sz k + sz k
      · rw [if_neg (by omega), if_neg (by omega), if_neg (by omega), if_pos (by omega)]
      · by_cases g3 : c < b + sz (k + 1) + cn k
        · rw [if_neg (by omega), if_pos (by omega), if_neg (by omega), if_neg (by omega)]
        · rw [if_neg (by omega), if_neg (by omega), if_pos (by omega), if_neg (by omega)]
end Ben
