import Derived.Test.YtfilofnkiocbeaaCd8
namespace Ben
theorem su_le {f g : Nat → Nat} : ∀ {n : Nat}, (∀ j, j < n → f j ≤ g j) → su f n ≤ su g n
  | 0, _ => Nat.le_refl _
  | n + 1, h => Nat.add_le_add (su_le fun j hj => h j (by omega)) (h n (by omega))
theorem su_const (c : Nat) : ∀ n, su (fun _ => c) n = n * c
  | 0 => by simp [su]
  | n + 1 => by simp only [su]; rw [su_const c n, Nat.add_mul, Nat.one_mul]
theorem su_pos {f : Nat → Nat} {n d : Nat} (hd : d < n) (h : 0 < f d) : 0 < su f n := by
  induction n with
  | zero => omega
  | succ n ih =>
    simp only [su]
    by_cases e : d = n
    · subst e; omega
    · have := ih (by omega); omega
/-- No more different numbers below n than n. -/
theorem pig {f : Nat → Nat} {k n : Nat} (hf : ∀ j, j < k → f j < n) (hi : ∀ i j, i < j → j < k → f i ≠ f j) : k ≤ n := by
  have h1 : su (fun j => su (fun x => if f j = x then 1 else 0) n) k = k * 1 := by
    rw [← su_const 1 k]
    exact su_congr fun j hj => su_one (f := fun x => if f j = x then 1 else 0) (hf j hj) (if_pos rfl) fun x _ hne => if_neg fun e => hne e.symm
  rw [su_swap] at h1
  have h2 : su (fun x => su (fun j => if f j = x then 1 else 0) k) n ≤ su (fun _ => 1) n := by
    refine su_le fun x _ => ?_
    by_cases e : ∃ j, j < k ∧ f j = x
    · obtain ⟨j, hj, e⟩ := e
      rw [su_one (f := fun j => if f j = x then 1 else 0) hj (if_pos e) fun i hi' hne => if_neg fun e' => ?_]
      · exact Nat.le_refl _
      · by_cases hlt : i < j
        · exact hi i j hlt hj (e'.trans e.symm)
        · exact hi j i (by omega) hi' (e.trans e'.symm)
    · rw [su_zero fun j hj => if_neg fun e' => e ⟨j, hj, e'⟩]
      exact Nat.zero_le _
  rw [su_const] at h2
  omega
/-- A loop has no more rounds than there are inputs. -/
theorem loop_le {h : Nat} {p q : Nat → Nat} {sn : Nat → Prop} (P : Pm (2 * h) p q) {s k : Nat} (hs : s < 2 * h) (hk : ∀ j, j < k → ¬ Sn p q sn s j (itt p q s j)) : k ≤ 2 * h :=
  pig (f := itt p q s) (fun j _ => itt_lt P hs j) fun i j hij hj e => hk j hj (Or.inr ⟨i, hij, Or.inl e.symm⟩)
theorem loop_exists {h : Nat} {p q : Nat → Nat} {sn : Nat → Prop} (P : Pm (2 * h) p q) (C : Cls (2 * h) p q sn) {s : Nat} (hs : s < 2 * h) (h0 : ¬ sn s) : ∃ k, 0 < k ∧ itt p q s k = s := by
  have h1 : ∀ k, (∀ j, j < k → ¬ Sn p q sn s j (itt p q s j)) ∨ ∃ k', k' < k ∧ (∀ j, j < k' → ¬ Sn p q sn s j (itt p q s j)) ∧ Sn p q sn s k' (itt p q s k') := by
    intro k
    induction k with
    | zero => exact Or.inl fun j hj => by omega
    | succ k ih =>
      obtain h2 | ⟨k', a, b⟩ := ih
      · by_cases e : Sn p q sn s k (itt p q s k)
        · exact Or.inr ⟨k, by omega, h2, e⟩
        · refine Or.inl fun j hj => ?_
          by_cases e' : j = k
          · rw [e']; exact e
          · exact h2 j (by omega)
      · exact Or.inr ⟨k', by omega, b⟩
  obtain h2 | ⟨k, _, h3, h4⟩ := h1 (2 * h + 1)
  · have := loop_le P hs h2
    omega
  · refine ⟨k, ?_, loop_end P C hs h0 h3 h4⟩
    cases k with
    | zero =>
      obtain h5 | ⟨j, hj, _⟩ := h4
      · exact absurd h5 h0
      · omega
    | succ k => omega
/-- Does an input lie on one of the first loops? -/
def LIn (p q : Nat → Nat) (L : Nat) (s kk : Nat → Nat) (x : Nat) : Prop := ∃ i, i < L ∧ ∃ j, j < kk i ∧ (x = itt p q (s i) j ∨ x = pt (itt p q (s i) j))
/-- The loops of the first t inputs. -/
structure Lpp (h : Nat) (p q : Nat → Nat) (t L : Nat) (s kk : Nat → Nat) : Prop where
  at_ : ∀ i, i < L → s i < 2 * h ∧ 0 < kk i ∧ itt p q (s i) (kk i) = s i
  cov : ∀ x, x < t → LIn p q L s kk x
  one : ∀ i j i' j', i < L → i' < L → j < kk i → j' < kk i' → (itt p q (s i) j = itt p q (s i') j' ∨ itt p q (s i) j = pt (itt p q (s i') j')) → i = i'
theorem lpp_zero (h : Nat) (p q s kk : Nat → Nat) : Lpp h p q 0 0 s kk := ⟨fun _ h => by omega, fun _ h => by omega, fun _ _ _ _ h => by omega⟩
theorem lpp_cls {h t L : Nat} {p q s kk : Nat → Nat} (P : Pm (2 * h) p q) (H : Lpp h p q t L s kk) : Cls (2 * h) p q (LIn p q L s kk) := by
  have f1 : ∀ x, x < 2 * h → LIn p q L s kk x → LIn p q L s kk (pt x) := by
    rintro x _ ⟨i, hi, j, hj, rfl | rfl⟩
    · exact ⟨i, hi, j, hj, Or.inr rfl⟩
    · exact ⟨i, hi, j, hj, Or.inl (pt_pt _)⟩
  have f2 : ∀ x, x < 2 * h → LIn p q L s kk x → LIn p q L s kk (ax p q x) := by
    rintro x _ ⟨i, hi, j, hj, rfl | rfl⟩
    · obtain ⟨j', h1, h2⟩ := itt_back P (H.at_ i hi).1 hj (H.at_ i hi).2.2
      exact ⟨i, hi, j', h1, Or.inr h2⟩
    · obtain ⟨j', h1, h2⟩ := itt_on hj (H.at_ i hi).2.2
      exact ⟨i, hi, j', h1, Or.inl h2⟩
  intro x hx
  refine ⟨⟨fun h1 => ?_, f1 x hx⟩, fun h1 => ?_, f2 x hx⟩
  · have := f1 _ (pt_lt hx) h1
    rwa [pt_pt] at this
  · have := f2 _ (ax_lt P hx) h1
    rwa [ax_ax P hx] at this
theorem lpp_in {h t L : Nat} {p q s kk : Nat → Nat} (H : Lpp h p q t L s kk) (ht : LIn p q L s kk t) : Lpp h p q (t + 1) L s kk :=
  ⟨H.at_, fun x hx => by
    by_cases e : x = t
    · rw [e]; exact ht
    · exact H.cov x (by omega), H.one⟩
theorem lpp_new {h t L k : Nat} {p q s kk : Nat → Nat} (P : Pm (2 * h) p q) (H : Lpp h p q t L s kk) (ht : t < 2 * h) (hn : ¬ LIn p q L s kk t) (hk : 0 < k) (he : itt p q t k = t) :
    Lpp h p q (t + 1) (L + 1) (fun i => if i = L then t else s i) (fun i => if i = L then k else kk i) := by
  have C := lpp_cls P H
  refine ⟨fun i hi => ?_, fun x hx => ?_, fun i j i' j' hi hi' hj hj' e => ?_⟩
  · by_cases e : i = L
    · simp only [e, if_pos]; exact ⟨ht, hk, he⟩
    · simp only [e, if_false]; exact H.at_ i (by omega)
  · by_cases e : x = t
    · refine ⟨L, by omega, 0, by simp only [if_pos]; exact hk, Or.inl ?_⟩
      simp only [if_pos]; exact e
    · obtain ⟨i, hi, j, hj, h1⟩ := H.cov x (by omega)
      have ne : i ≠ L := by omega
      refine ⟨i, by omega, j, ?_, ?_⟩
      · simp only [ne, if_false]; exact hj
      · simp only [ne, if_false]; exact h1
  · by_cases e1 : i = L
    · by_cases e2 : i' = L
      · rw [e1, e2]
      · exfalso
        simp only [e1, e2, if_pos, if_false] at e hj hj'
        exact hn ((cls_itt P C ht j).1 ⟨i', by omega, j', hj', e⟩)
    · by_cases e2 : i' = L
      · exfalso
        simp only [e1, e2, if_pos, if_false] at e hj hj'
        obtain e | e := e
        · exact hn ((cls_itt P C ht j').1 ⟨i, by omega, j, hj, Or.inl e.symm⟩)
        · exact hn ((cls_itt P C ht j').1 ⟨i, by omega, j, hj, Or.inr (by rw [e, pt_pt])⟩)
      · simp only [e1, e2, if_false] at e hj hj'
        exact H.one i j i' j' (by omega) (by omega) hj hj' e
theorem lpp_lps {h L : Nat} {p q s kk : Nat → Nat} (H : Lpp h p q (2 * h) L s kk) : Lps h p q L s kk := ⟨H.at_, H.cov, H.one⟩
theorem lps_exists {h : Nat} {p q : Nat → Nat} (P : Pm (2 * h) p q) : ∃ L s kk, Lps h p q L s kk := by
  have h1 : ∀ t, t ≤ 2 * h → ∃ L s kk, Lpp h p q t L s kk := by
    intro t
    induction t with
    | zero => exact fun _ => ⟨0, id, id, lpp_zero h p q id id⟩
    | succ t ih =>
      intro ht
      obtain ⟨L, s, kk, H⟩ := ih (by omega)
      by_cases e : LIn p q L s kk t
      · exact ⟨L, s, kk, lpp_in H e⟩
      · obtain ⟨k, hk, he⟩ := loop_exists P (lpp_cls P H) (show t < 2 * h by omega) e
        exact ⟨_, _, _, lpp_new P H (by omega) e hk he⟩
  obtain ⟨L, s, kk, H⟩ := h1 (2 * h) (Nat.le_refl _)
  exact ⟨L, s, kk, lpp_lps H⟩
/-- Where nothing is stuck there is a way. -/
theorem wN_pos : ∀ (k : Nat) {p q : Nat → Nat} {st : Nat → Int}, Pm (sz k) p q → (∀ j, j < cn k → st j = 0) → 0 < wN k p st
  | 0, p, q, st, _, hs => by
    simp only [wN]
    rw [hs 0 (by decide), if_pos (by rfl)]
    omega
  | k + 1, p, q, st, P, hs => by
    have hc := cn_pos k
    have hn : cn (k + 1) = sz (k + 1) + 2 * cn k := rfl
    have P2 : Pm (2 * sz k) p q := P
    obtain ⟨L, s, kk, H⟩ := lps_exists P2
    obtain ⟨id, par, HL, _⟩ := lps_loops P2 H
    rw [wN_choices P2 HL]
    refine su_pos (d := 0) (Nat.two_pow_pos L) ?_
    have G := good_sdN HL 0
    unfold wS
    have hm : maS (sz k) q st (sdN id par 0) = true := by
      refine decide_eq_true fun j hj => ?_
      rw [hs j (by rw [hn, sz_succ]; omega), hs (sz k + j) (by rw [hn, sz_succ]; omega)]
      exact ⟨rfl, rfl⟩
    rw [if_pos hm]
    exact Nat.mul_pos (wN_pos k (upS_pm P2 G) fun j hj => hs _ (by omega)) (wN_pos k (loS_pm P2 G) fun j hj => hs _ (by omega))
theorem wN_le : ∀ (k : Nat) (p : Nat → Nat) (st : Nat → Int), wN k p st ≤ 2 ^ cn k
  | 0, p, st => by simp only [wN]; split <;> decide
  | k + 1, p, st => by
    have hn : cn (k + 1) = sz k + (sz k + (cn k + cn k)) := by show sz (k + 1) + 2 * cn k = _; rw [sz_succ]; omega
    simp only [wN]
    refine Nat.le_trans (su_le (g := fun _ => 2 ^ cn k * 2 ^ cn k) fun a _ => ?_) ?_
    · split
      · split
        · exact Nat.mul_le_mul (wN_le k _ _) (wN_le k _ _)
        · exact Nat.zero_le _
      · exact Nat.zero_le _
    · rw [su_const, hn, Nat.pow_add, Nat.pow_add, Nat.pow_add]
      refine Nat.mul_le_mul (Nat.le_refl _) ?_
      exact Nat.le_mul_of_pos_left _ (Nat.two_pow_pos _)
end Ben
