import Derived.Test.YtkkcnhhfdicppaaDi7
namespace Lay
theorem anyN_true' {p : Nat → Bool} : ∀ {n : Nat}, anyN p n = true → ∃ k, k < n ∧ p k = true := by
  intro n
  induction n with
  | zero => intro h; cases h
  | succ n ih =>
    intro h
    simp only [anyN, Bool.or_eq_true] at h
    rcases h with h | h
    · obtain ⟨k, hk, hp⟩ := ih h
      exact ⟨k, by omega, hp⟩
    · exact ⟨n, by omega, h⟩
theorem idx_dm {Wn Hn N x y : Nat} (hN : N = Hn * Wn) (hx : x < Wn) (hy : y < Hn) : y * Wn + x < N ∧ (y * Wn + x) % Wn = x ∧ (y * Wn + x) / Wn = y := by
  refine ⟨?_, by rw [Nat.mul_comm, Nat.mul_add_mod, Nat.mod_eq_of_lt hx], by rw [Nat.mul_comm, Nat.mul_add_div (by omega), Nat.div_eq_of_lt hx]; omega⟩
  have h : (y + 1) * Wn ≤ Hn * Wn := Nat.mul_le_mul_right _ hy
  rw [Nat.succ_mul] at h
  omega
theorem pr_parts {W H M tx ty : Int} {K : Int → Int → Bool} {f : Nat → Int} {N : Nat} (h : prS W H M tx ty K f N = true) : f (ty * W + tx).toNat ≤ 0 ∧ ∀ i, i < N → ∀ d, d < 4 → badS W H M K f i d = false := by
  unfold prS at h
  simp only [Bool.and_eq_true, Bool.not_eq_true', decide_eq_false_iff_not] at h
  exact ⟨by omega, fun i hi d hd => anyN_get (anyN_get h.2 i hi) d hd⟩
/-- One step lowers what a proof says by no more than it costs. -/
theorem pr_step {Wn Hn N : Nat} {M tx ty x y d : Int} {K : Int → Int → Bool} {f : Nat → Int} (hN : N = Hn * Wn) (h : prS (Wn : Int) (Hn : Int) M tx ty K f N = true) (h0 : 0 ≤ d) (h4 : d < 4) (ho : opB (Wn : Int) (Hn : Int) K x y = true) (hq : opB (Wn : Int) (Hn : Int) K (nx x d) (ny y d) = true) :
    f (y * (Wn : Int) + x).toNat ≤ f (ny y d * (Wn : Int) + nx x d).toNat + M := by
  have hon := (opB_iff.1 ho).1
  obtain ⟨xn, rfl⟩ : ∃ k : Nat, x = k := ⟨x.toNat, by omega⟩
  obtain ⟨yn, rfl⟩ : ∃ k : Nat, y = k := ⟨y.toNat, by omega⟩
  obtain ⟨dn, rfl⟩ : ∃ k : Nat, d = k := ⟨d.toNat, by omega⟩
  obtain ⟨i1, i2, i3⟩ := idx_dm hN (show xn < Wn by omega) (show yn < Hn by omega)
  have hb := (pr_parts h).2 (yn * Wn + xn) i1 dn (by omega)
  unfold badS at hb
  rw [Int.toNat_natCast, i2, i3, ho, hq, Bool.true_and, Bool.true_and] at hb
  have e : ((yn : Int) * (Wn : Int) + (xn : Int)).toNat = yn * Wn + xn := by
    rw [show (yn : Int) * (Wn : Int) + (xn : Int) = ((yn * Wn + xn : Nat) : Int) by push_cast; rfl]
    exact Int.toNat_natCast _
  rw [e]
  simp only [decide_eq_false_iff_not] at hb
  omega
/-- No walk costs less than a proof says. -/
theorem pr_low {Wn Hn N : Nat} {M B tx ty : Int} {K : Int → Int → Bool} {f : Nat → Int} (hN : N = Hn * Wn) (hB : 0 ≤ B) (h : prS (Wn : Int) (Hn : Int) M tx ty K f N = true) (ht : opB (Wn : Int) (Hn : Int) K tx ty = true) {x y d v : Int}
    (hw : Wk (opB (Wn : Int) (Hn : Int) K) M B tx ty x y d v) : f (y * (Wn : Int) + x).toNat ≤ v := by
  induction hw with
  | base x y d h0 h4 ho h1 h2 =>
    have hs := pr_step hN h h0 h4 ho (by rw [h1, h2]; exact ht)
    rw [h1, h2] at hs
    have := (pr_parts h).1
    omega
  | step x y d x' y' d' v hw h0 h4 ho h1 h2 ih =>
    subst h1; subst h2
    have hs := pr_step hN h h0 h4 ho hw.dir.2.2
    have := (bd_le (B := B) (i := d) (o := d') hB).1
    omega
theorem far_low {Wn Hn N : Nat} {M B tx ty : Int} {K : Int → Int → Bool} {f : Nat → Int} {F : Int → Int → Int → Option Int} (hN : N = Hn * Wn) (hB : 0 ≤ B) (h : prS (Wn : Int) (Hn : Int) M tx ty K f N = true) (ht : opB (Wn : Int) (Hn : Int) K tx ty = true) (hc : Costs (Wn : Int) (Hn : Int) K M B tx ty F)
    {i : Nat} (hn : 0 ≤ farS F B tx ty ((i % Wn : Nat) : Int) ((i / Wn : Nat) : Int)) : f i ≤ farS F B tx ty ((i % Wn : Nat) : Int) ((i / Wn : Nat) : Int) := by
  have hi := idx_back (Wn := Wn) (i := i)
  have hi' : (((i / Wn : Nat) : Int) * (Wn : Int) + ((i % Wn : Nat) : Int)).toNat = i := by rw [hi]; exact Int.toNat_natCast i
  generalize ((i % Wn : Nat) : Int) = x at *
  generalize ((i / Wn : Nat) : Int) = y at *
  unfold farS at hn ⊢
  by_cases hp : x = tx ∧ y = ty
  · rw [if_pos hp]
    have := (pr_parts h).1
    rw [← hp.1, ← hp.2, hi'] at this
    exact this
  · rw [if_neg hp] at hn ⊢
    rcases chN_is F B x y (-1) 4 with ⟨h1, _⟩ | ⟨d, v, h0, h4, hf, he, _, _⟩
    · have h1' : (chp F B x y (-1)).1 = -1 := h1
      rw [if_pos h1'] at hn
      omega
    · have he' : chp F B x y (-1) = (d, v + bd B (-1) d) := he
      have hd : ¬ (chp F B x y (-1)).1 = -1 := by rw [he']; simp only; omega
      rw [if_neg hd, he']
      simp only
      rw [hf]
      have := pr_low hN hB h ht ((hc.1 x y d).1 v hf).1
      rw [hi'] at this
      exact this
theorem di_ok {Wn Hn N : Nat} {M tx ty : Int} {K : Int → Int → Bool} (hN : N = Hn * Wn) (hW1 : 1 ≤ Wn) (hW9 : Wn ≤ 30) (hH9 : Hn ≤ 30) (hM : 0 ≤ M ∧ M ≤ 1000) (htx : 0 ≤ tx ∧ tx < Wn) (hty : 0 ≤ ty ∧ ty < Hn) :
    anS N ((Wn : Int) * (Hn : Int)) (diS Wn M tx ty) = true ∧ prS (Wn : Int) (Hn : Int) M tx ty K (diS Wn M tx ty) N = true := by
  have key : ∀ i, i < N → 0 ≤ diS Wn M tx ty i ∧ diS Wn M tx ty i ≤ 60000 := fun i hi => by
    have h1 := Nat.mod_lt i (show 0 < Wn by omega)
    have h2 : i / Wn < Hn := Nat.div_lt_of_lt_mul (by rw [Nat.mul_comm, ← hN]; exact hi)
    unfold diS
    generalize i % Wn = p at h1 ⊢
    generalize i / Wn = q at h2 ⊢
    have hm : 0 ≤ max ((p : Int) - tx) (-((p : Int) - tx)) + max ((q : Int) - ty) (-((q : Int) - ty)) ∧ max ((p : Int) - tx) (-((p : Int) - tx)) + max ((q : Int) - ty) (-((q : Int) - ty)) ≤ 60 := by omega
    exact ⟨Int.mul_nonneg hM.1 hm.1, Int.le_trans (Int.mul_le_mul hM.2 hm.2 hm.1 (by omega)) (by decide)⟩
  have hNN : (N : Int) = (Wn : Int) * (Hn : Int) := by rw [hN]; push_cast; exact Int.mul_comm _ _
  refine ⟨?_, ?_⟩
  · unfold anS
    rw [decide_eq_true hNN, Bool.true_and, Bool.not_eq_true']
    cases ha : anyN (fun i => decide (diS Wn M tx ty i < -1000000000 ∨ 1000000000 < diS Wn M tx ty i)) N with
    | false => rfl
    | true =>
      obtain ⟨k, hk, hp⟩ := anyN_true' ha
      have := key k hk
      simp only [decide_eq_true_eq] at hp
      omega
  · obtain ⟨xn, rfl⟩ : ∃ k : Nat, tx = k := ⟨tx.toNat, by omega⟩
    obtain ⟨yn, rfl⟩ : ∃ k : Nat, ty = k := ⟨ty.toNat, by omega⟩
    obtain ⟨t1, t2, t3⟩ := idx_dm hN (show xn < Wn by omega) (show yn < Hn by omega)
    have e : ((yn : Int) * (Wn : Int) + (xn : Int)).toNat = yn * Wn + xn := by
      rw [show (yn : Int) * (Wn : Int) + (xn : Int) = ((yn * Wn + xn : Nat) : Int) by push_cast; rfl]
      exact Int.toNat_natCast _
    have hz : diS Wn M xn yn (yn * Wn + xn) = 0 := by
      unfold diS
      rw [t2, t3]
      simp
    unfold prS
    rw [e, hz]
    rw [show decide ((0 : Int) < 0) = false by decide, Bool.not_false, Bool.true_and, Bool.not_eq_true']
    cases ha : anyN (fun i => anyN (badS (Wn : Int) (Hn : Int) M K (diS Wn M xn yn) i) 4) N with
    | false => rfl
    | true =>
      obtain ⟨i, hi, hp⟩ := anyN_true' ha
      obtain ⟨d, hd, hq⟩ := anyN_true' hp
      unfold badS at hq
      rw [Int.toNat_natCast] at hq
      simp only [Bool.and_eq_true, decide_eq_true_eq] at hq
      obtain ⟨_, hq2, hq3⟩ := hq
      have hon := (opB_iff.1 hq2).1
      have h1 := Nat.mod_lt i (show 0 < Wn by omega)
      have h2 : i / Wn < Hn := Nat.div_lt_of_lt_mul (by rw [Nat.mul_comm, ← hN]; exact hi)
      obtain ⟨px, hpx⟩ : ∃ k : Nat, nx ((i % Wn : Nat) : Int) d = k := ⟨(nx ((i % Wn : Nat) : Int) d).toNat, by omega⟩
      obtain ⟨py, hpy⟩ : ∃ k : Nat, ny ((i / Wn : Nat) : Int) d = k := ⟨(ny ((i / Wn : Nat) : Int) d).toNat, by omega⟩
      rw [hpx, hpy] at hq3 hon
      obtain ⟨j1, j2, j3⟩ := idx_dm hN (show px < Wn by omega) (show py < Hn by omega)
      have ej : ((py : Int) * (Wn : Int) + (px : Int)).toNat = py * Wn + px := by
        rw [show (py : Int) * (Wn : Int) + (px : Int) = ((py * Wn + px : Nat) : Int) by push_cast; rfl]
        exact Int.toNat_natCast _
      rw [ej] at hq3
      unfold diS at hq3
      rw [j2, j3] at hq3
      generalize i % Wn = p at *
      generalize i / Wn = q at *
      have hle : max ((p : Int) - xn) (-((p : Int) - xn)) + max ((q : Int) - yn) (-((q : Int) - yn)) ≤ max ((px : Int) - xn) (-((px : Int) - xn)) + max ((py : Int) - yn) (-((py : Int) - yn)) + 1 := by
        have hdd : d = 0 ∨ d = 1 ∨ d = 2 ∨ d = 3 := by omega
        rcases hdd with rfl | rfl | rfl | rfl <;> simp [nx, ny] at hpx hpy <;> omega
      generalize max ((p : Int) - xn) (-((p : Int) - xn)) + max ((q : Int) - yn) (-((q : Int) - yn)) = A at hle hq3
      generalize max ((px : Int) - xn) (-((px : Int) - xn)) + max ((py : Int) - yn) (-((py : Int) - yn)) = C at hle hq3
      have hmul := Int.mul_le_mul_of_nonneg_left hle hM.1
      rw [Int.mul_add, Int.mul_one] at hmul
      omega
end Lay
