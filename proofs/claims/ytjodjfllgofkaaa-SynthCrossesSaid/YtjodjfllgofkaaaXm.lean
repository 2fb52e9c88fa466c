import Derived.Test.YtjodjfllgofkaaaPq
import Derived.Test.YtjodjfllgofkaaaVal
import Derived.Test.YtjodjfllgofkaaaMo
import Derived.Test.YtjodjfllgofkaaaPo
import Derived.Test.YtjodjfllgofkaaaSn
namespace Amp
theorem vld_made {z : Nm} (h : vld z = true) : made z.v z.k.toNat = (z, 0) := made_of_eqv h rfl
theorem mulS_one {z : Nm} (h : vld z = true) : mulS N1 z = (z, 0) := by
  unfold mulS
  rw [show vld N1 = true by decide, h]
  simp only [Bool.and_self, if_true]
  rw [show mul N1.v z.v = z.v by apply C4.ext' <;> simp [mul, N1], show N1.k + z.k = z.k by simp [N1]]
  exact vld_made h
theorem red_C0 (k : Nat) : red C0 k = (C0, 0) := by
  induction k with
  | zero => rfl
  | succ k ih => rw [red, if_pos (by decide), show half (tr C0) = C0 by decide, ih]
theorem made_C0 (k : Nat) : made C0 k = (N0, 0) := by
  unfold made; rw [red_C0]; rfl
theorem mulS_nil {z : Nm} (h : vld z = true) : mulS N0 z = (N0, 0) := by
  unfold mulS
  rw [vld_N0, h]
  simp only [Bool.and_self, if_true]
  rw [show mul N0.v z.v = C0 by apply C4.ext' <;> simp [mul, N0, C0]]
  exact made_C0 _
theorem addS_nil {z : Nm} (h : vld z = true) : addS N0 z = (z, 0) := by
  have hk := (vld_k h).1
  have h1 : ∀ N, z.k.toNat ≤ N → sc N N0 = C0 := fun N _ => by
    unfold sc
    show trn (N - 0) C0 = C0
    generalize N - 0 = m
    induction m with
    | zero => rfl
    | succ m ih => rw [trn_succ, ih]; decide
  unfold addS
  rw [vld_N0, h]
  simp only [Bool.and_self, if_true]
  refine made_of_eqv h ?_
  have h2 : z.k.toNat ≤ max (comb N0 z 1).2 z.k.toNat := Nat.le_max_right _ _
  rw [eqv_iff (max (comb N0 z 1).2 z.k.toNat) (Nat.le_max_left _ _) h2]
  rw [comb_sc _ N0 z 1 (by simp [N0]) h2, h1 _ h2]
  show add C0 (smul 1 (sc _ z)) = sc _ z
  apply C4.ext' <;> simp [add, smul, C0]
theorem fstE_zero {g : Nat → Int} {n : Nat} (h : ∀ k, k < n → g k = 0) : fstE g n = 0 := by
  induction n with
  | zero => rfl
  | succ n ih => rw [fstE, if_pos (ih (fun k hk => h k (by omega)))]; exact h n (by omega)
theorem tot_one {f : Nat → Nm} {i : Nat} {z : Nm} (hz : vld z = true) (hi : f i = z) (h0 : ∀ t, t ≠ i → f t = N0) (k : Nat) : tot f k = if i < k then (z, 0) else (N0, 0) := by
  induction k with
  | zero => rfl
  | succ k ih =>
    show stepS (tot f k) (f k) = _
    by_cases e : k = i
    · rw [ih, if_neg (by omega), if_pos (by omega), e, hi]
      unfold stepS
      simp [addS_nil hz]
    · rw [h0 k e]
      by_cases hlt : i < k
      · rw [ih, if_pos hlt, if_pos (by omega)]
        unfold stepS
        simp [addS_comm z N0, addS_nil hz]
      · rw [ih, if_neg hlt, if_neg (by omega)]
        unfold stepS
        simp [addS_nil vld_N0]
theorem prV_vld' (x y : Nat → Nm) (k : Nat) : vld (prV x y k) = true := mulS_vld _ _
theorem tot_congr {f g : Nat → Nm} {n : Nat} (h : ∀ t, t < n → f t = g t) : tot f n = tot g n := by
  induction n with
  | zero => rfl
  | succ n ih => simp only [tot]; rw [ih (fun t ht => h t (by omega)), h n (by omega)]
theorem dotS_id {n i : Nat} {y : Nat → Nm} (hn : n ≤ 6) (hi : i < n) (hy : ∀ t, t < n → vld (y t) = true) : dotS (fun t => idF n (i * n + t)) y n = (y i, 0) := by
  have hx : ∀ t, t < n → mulS (idF n (i * n + t)) (y t) = (if t = i then y i else N0, 0) := fun t ht => by
    unfold idF
    rw [(divmod_at (i := i) ht).1, (divmod_at (i := i) ht).2]
    by_cases e : t = i
    · subst e; rw [if_pos rfl, if_pos rfl, mulS_one (hy t ht)]
    · rw [if_neg (fun h => e h.symm), if_neg e, mulS_nil (hy t ht)]
  have h0 : fstE (prE (fun t => idF n (i * n + t)) y) n = 0 := fstE_zero (fun k hk => by unfold prE; rw [hx k hk])
  unfold dotS
  rw [if_pos h0, sumS_ok (by omega) (okTo_all (fun k _ => prV_vld' _ _ k))]
  have hg : tot (prV (fun t => idF n (i * n + t)) y) n = tot (fun t => if t = i then y i else N0) n := tot_congr (fun t ht => by unfold prV; rw [hx t ht])
  rw [hg, tot_one (f := fun t => if t = i then y i else N0) (z := y i) (hy i hi) (if_pos rfl) (fun t ht => if_neg ht), if_pos hi]
end Amp

namespace Prm
open Amp
theorem desc_none_of {f : Nat → Int} {m k : Nat} (h : ∀ j, k ≤ j → j < k + m → ¬ f (j + 1) < f j) : desc f m k = none := by
  induction m generalizing k with
  | zero => rfl
  | succ m ih => simp only [desc]; rw [if_neg (h k (by omega) (by omega))]; exact ih fun j h1 h2 => h j (by omega) (by omega)
theorem desc_some_of {f : Nat → Int} {m k r : Nat} (h1 : k ≤ r) (h2 : r < k + m) (h3 : f (r + 1) < f r) (h : ∀ j, k ≤ j → j < r → ¬ f (j + 1) < f j) : desc f m k = some r := by
  induction m generalizing k with
  | zero => omega
  | succ m ih =>
    simp only [desc]
    by_cases e : k = r
    · subst e; rw [if_pos h3]
    · rw [if_neg (h k (by omega) (by omega))]
      exact ih (by omega) (by omega) fun j a b => h j (by omega) b
theorem swp_comp (f : Nat → Int) (h : Nat → Int) (k : Nat) : swp (fun i => f (h i).toNat) k = fun i => f (swp h k i).toNat := by
  funext i
  rw [swp_tau, swp_tau]
theorem fold_comp (f : Nat → Int) (l : List Nat) (h : Nat → Int) : l.foldl swp (fun i => f (h i).toNat) = fun i => f (l.foldl swp h i).toNat := by
  induction l generalizing h with
  | nil => rfl
  | cons k l ih => simp only [List.foldl_cons]; rw [swp_comp, ih]
theorem Runs.fold {n : Nat} {f g : Nat → Int} {l : List Nat} (h : Runs n f l g) : g = l.foldl swp f := by
  induction h with
  | nil => rfl
  | step _ _ ih => rw [List.foldl_append, ← ih]; rfl
theorem Runs.small {n : Nat} {f g : Nat → Int} {l : List Nat} (h : Runs n f l g) : ∀ k, k ∈ l → k + 1 < n := by
  induction h with
  | nil => intro k hk; cases hk
  | step _ hd ih =>
    intro k hk
    rcases List.mem_append.1 hk with h1 | h1
    · exact ih k h1
    · obtain ⟨_, h2, _⟩ := desc_some hd
      simp only [List.mem_singleton] at h1
      omega
theorem Runs.perm {n : Nat} {f g : Nat → Int} {l : List Nat} (h : Runs n f l g) (hp : permB n f = true) : permB n g = true := by
  induction h with
  | nil => exact hp
  | step _ hd ih =>
    obtain ⟨_, h2, _⟩ := desc_some hd
    exact permB_swp ih (by omega)
/-- A permutation in which nothing is to be exchanged changes nothing. -/
theorem sorted_id {n : Nat} {g : Nat → Int} (hp : permB n g = true) (hd : desc g (n - 1) 0 = none) : ∀ i, i < n → g i = i := by
  obtain ⟨_, _, hr⟩ := permB_yes hp
  have hs : ∀ j, j + 1 < n → g j < g (j + 1) := fun j hj => by
    have h1 := desc_none hd j (by omega) (by omega)
    have h2 := (hr (j + 1) hj).2.2 j (by omega)
    omega
  have lo : ∀ i, i < n → (i : Int) ≤ g i := by
    intro i
    induction i with
    | zero => intro h; exact (hr 0 h).1
    | succ i ih => intro h; have := ih (by omega); have := hs i h; omega
  have hi : ∀ d i, i + d + 1 = n → g i ≤ (i : Int) := by
    intro d
    induction d with
    | zero => intro i h; have := (hr i (by omega)).2.1; omega
    | succ d ih => intro i h; have := ih (i + 1) (by omega); have := hs i (by omega); omega
  intro i h
  have := lo i h
  have := hi (n - 1 - i) i (by omega)
  omega
/-- The items of the crossings of a list. -/
def itsC (l : List Nat) (i : Nat) : It := Go.Proofs.Ytjodjfllgofkaaa.crIt (l[i]?.getD 0)
theorem itA_cr (k : Nat) : itA (Go.Proofs.Ytjodjfllgofkaaa.crIt k) = k := by simp [itA, Go.Proofs.Ytjodjfllgofkaaa.crIt]
theorem ltF_fold (l : List Nat) : ∀ m, m ≤ l.length → ltF (itsC l) m = (l.take m).foldl swp (fun i => (i : Int)) := by
  intro m
  induction m with
  | zero => intro _; rfl
  | succ m ih =>
    intro hm
    rw [ltF_succ, ih (by omega), List.take_succ_eq_append_getElem (by omega), List.foldl_append]
    show swp _ (itA (itsC l m)) = swp _ l[m]
    rw [show itA (itsC l m) = l[m] by unfold itsC; rw [itA_cr]; simp [show m < l.length by omega]]
/-- What the crossings that sort a permutation do. -/
theorem sorts {n : Nat} {f g : Nat → Int} {l : List Nat} (h : Runs n f l g) (hp : permB n f = true) (hd : desc g (n - 1) 0 = none) : ∀ i, i < n → f (ltF (itsC l) l.length i).toNat = i := by
  intro i hi
  have h1 := sorted_id (h.perm hp) hd i hi
  rw [h.fold] at h1
  have h2 := fold_comp f l (fun i => (i : Int))
  have h3 : (fun i : Nat => f ((i : Int)).toNat) = f := by funext i; rw [Int.toNat_natCast]
  rw [h3] at h2
  rw [h2] at h1
  rw [ltF_fold l l.length (Nat.le_refl _), List.take_length]
  exact h1
theorem itF_cr {n k : Nat} (h : k + 1 < n) : itF n (Go.Proofs.Ytjodjfllgofkaaa.crIt k) = true := by
  unfold itF itB itW Go.Proofs.Ytjodjfllgofkaaa.crIt
  simp
  omega
theorem fit_cr {n : Nat} {l : List Nat} (h : ∀ k, k ∈ l → k + 1 < n) : ∀ m, m ≤ l.length → fitTo n (itsC l) m = true ∧ crossTo (itsC l) m = true := by
  intro m
  induction m with
  | zero => intro _; exact ⟨rfl, rfl⟩
  | succ m ih =>
    intro hm
    obtain ⟨a, b⟩ := ih (by omega)
    have e : itsC l m = Go.Proofs.Ytjodjfllgofkaaa.crIt l[m] := by unfold itsC; simp [show m < l.length by omega]
    refine ⟨?_, ?_⟩
    · simp only [fitTo]; rw [a, e, itF_cr (h _ (List.getElem_mem _))]; rfl
    · simp only [crossTo]; rw [b, e]; rfl
theorem ask_cr {n : Nat} {l : List Nat} (h1 : 1 ≤ n) (h6 : n ≤ 6) (hl : l.length ≤ 5000) (h : ∀ k, k ∈ l → k + 1 < n) : askS n l.length (itsC l) = 0 := by
  unfold askS
  rw [if_pos (by omega), Int.toNat_natCast, if_pos ⟨hl, (fit_cr h l.length (Nat.le_refl _)).1⟩]
end Prm
namespace Amp
theorem fstE_cong {g h : Nat → Int} {n : Nat} (e : ∀ k, k < n → g k = h k) : fstE g n = fstE h n := by
  induction n with
  | zero => rfl
  | succ n ih => simp only [fstE]; rw [ih fun k hk => e k (by omega), e n (by omega)]
theorem okTo_cong {g h : Nat → Nm} {n : Nat} (e : ∀ k, k < n → g k = h k) : okTo g n = okTo h n := by
  induction n with
  | zero => rfl
  | succ n ih => simp only [okTo]; rw [ih fun k hk => e k (by omega), e n (by omega)]
theorem dotS_cong {x x' y : Nat → Nm} {n : Nat} (e : ∀ t, t < n → x t = x' t) : dotS x y n = dotS x' y n := by
  have h1 : ∀ k, k < n → prE x y k = prE x' y k := fun k hk => by unfold prE; rw [e k hk]
  have h2 : ∀ k, k < n → prV x y k = prV x' y k := fun k hk => by unfold prV; rw [e k hk]
  unfold dotS
  rw [fstE_cong h1]
  unfold sumS
  rw [okTo_cong h2, tot_congr h2]
end Amp
namespace Go.Proofs.Ytjodjfllgofkaaa
open Go.RowKit Amp Prm
/-- The rows of the matrix of a crossing. -/
theorem cr_row {n a r t : Nat} (ha : a + 1 < n) (hr : r < n) (ht : t < n) : sprI n (crIt a) (r * n + t) = idF n (tau a r * n + t) := by
  have h1 : (((crIt a).at' - 1).toNat) = a := by simp [crIt]
  have h2 : ownS (crIt a) = 2 := by simp [ownS, crIt]
  have h3 : ∀ k, ownF (crIt a) k = if k = 0 ∨ k = 3 then N0 else N1 := fun k => by simp [ownF, crIt]
  unfold sprI
  rw [h1, h2]
  unfold sprG
  rw [(divmod_at ht).1, (divmod_at ht).2, h3]
  unfold idF tau
  by_cases e1 : r = a
  · subst e1
    rw [if_pos rfl]
    rw [(divmod_at (i := r + 1) ht).1, (divmod_at (i := r + 1) ht).2]
    by_cases e2 : t = r
    · subst e2; rw [if_pos (by omega), if_pos (by omega), if_neg (by omega)]
    · by_cases e3 : t = r + 1
      · subst e3; rw [if_pos (by omega), if_neg (by omega), if_pos rfl]
      · rw [if_neg (by omega), if_neg (by rw [(divmod_at ht).1, (divmod_at ht).2]; omega), if_neg (by omega)]
  · rw [if_neg e1]
    by_cases e4 : r = a + 1
    · subst e4
      rw [if_pos rfl]
      rw [(divmod_at (i := a) ht).1, (divmod_at (i := a) ht).2]
      by_cases e2 : t = a
      · subst e2; rw [if_pos (by omega), if_neg (by omega), if_pos rfl]
      · by_cases e3 : t = a + 1
        · subst e3; rw [if_pos (by omega), if_pos (by omega), if_neg (by omega)]
        · rw [if_neg (by omega), if_neg (by rw [(divmod_at ht).1, (divmod_at ht).2]; omega), if_neg (by omega)]
    · rw [if_neg e4, if_neg (by omega)]
theorem prodS_cr {n : Nat} {l : List Nat} (hn : n ≤ 6) (h : ∀ k, k ∈ l → k + 1 < n) : ∀ m, m ≤ l.length → (prodS n (itsC l) m).2 = 0 ∧ ∀ r c, r < n → c < n → (prodS n (itsC l) m).1 (r * n + c) = if ltF (itsC l) m r = (c : Int) then N1 else N0 := by
  intro m
  induction m with
  | zero =>
    intro _
    refine ⟨rfl, fun r c hr hc => ?_⟩
    show idF n (r * n + c) = _
    unfold idF
    rw [(divmod_at hc).1, (divmod_at hc).2]
    by_cases e : r = c
    · rw [if_pos e, if_pos (by simp only [ltF]; omega)]
    · rw [if_neg e, if_neg (by simp only [ltF]; omega)]
  | succ m ih =>
    intro hm
    obtain ⟨h1, h2⟩ := ih (by omega)
    have e : itsC l m = crIt l[m] := by unfold itsC; simp [show m < l.length by omega]
    have ha : l[m] + 1 < n := h _ (List.getElem_mem _)
    obtain ⟨a, haa⟩ : ∃ a, l[m] = a := ⟨_, rfl⟩
    rw [haa] at e ha
    have key : ∀ i j, i < n → j < n → mulZ n (sprI n (itsC l m)) (prodS n (itsC l) m).1 i j = ((prodS n (itsC l) m).1 (tau a i * n + j), 0) := fun i j hi hj => by
      unfold mulZ
      rw [e, dotS_cong (x' := fun t => idF n (tau a i * n + t)) (fun t ht => cr_row ha hi ht)]
      exact dotS_id (y := fun t => (prodS n (itsC l) m).1 (t * n + j)) hn ((tau_bij ha).1 i hi) (fun t _ => prodS_vld _ _ _ _)
    rw [prodS_step h1]
    refine ⟨fstE_zero fun k hk => ?_, fun r c hr hc => ?_⟩
    · have hn0 : 0 < n := by omega
      show (mulZ n _ _ (k / n) (k % n)).2 = 0
      rw [key (k / n) (k % n) (Nat.div_lt_of_lt_mul hk) (Nat.mod_lt _ hn0)]
    · show (mulZ n _ _ ((r * n + c) / n) ((r * n + c) % n)).1 = _
      rw [(divmod_at hc).1, (divmod_at hc).2, key r c hr hc]
      show (prodS n (itsC l) m).1 (tau a r * n + c) = _
      rw [h2 (tau a r) c ((tau_bij ha).1 r hr) hc, ltF_succ, swp_tau, e, itA_cr]
/-- The matrix of a permutation. -/
def pmF (n : Nat) (f : Nat → Int) (k : Nat) : Nm := if f (k % n) = ((k / n : Nat) : Int) then N1 else N0
theorem cross_mat {n : Nat} {f g : Nat → Int} {l : List Nat} (hn : n ≤ 6) (h : Runs n f l g) (hp : permB n f = true) (hd : desc g (n - 1) 0 = none) : (prodS n (itsC l) l.length).2 = 0 ∧ ∀ k, k < n * n → (prodS n (itsC l) l.length).1 k = pmF n f k := by
  obtain ⟨a, b⟩ := prodS_cr hn h.small l.length (Nat.le_refl _)
  have hs := sorts h hp hd
  obtain ⟨h1, _, hr⟩ := permB_yes hp
  have hl := ltF_perm h1 hn (fit_cr h.small l.length (Nat.le_refl _)).1 (fit_cr h.small l.length (Nat.le_refl _)).2 l.length (Nat.le_refl _)
  obtain ⟨_, _, hrl⟩ := permB_yes hl
  refine ⟨a, fun k hk => ?_⟩
  have hr' : k / n < n := Nat.div_lt_of_lt_mul hk
  have hc' : k % n < n := Nat.mod_lt _ (by omega)
  have hkk : k = k / n * n + k % n := by rw [Nat.mul_comm]; exact (Nat.div_add_mod k n).symm
  conv => lhs; rw [hkk]
  rw [b _ _ hr' hc']
  unfold pmF
  have e1 := hs (k / n) hr'
  obtain ⟨y, hy⟩ : ∃ y : Nat, ltF (itsC l) l.length (k / n) = y := ⟨(ltF (itsC l) l.length (k / n)).toNat, by have := (hrl _ hr').1; omega⟩
  rw [hy] at e1
  rw [Int.toNat_natCast] at e1
  have hyn : y < n := by have := (hrl _ hr').2.1; omega
  rw [hy]
  by_cases e2 : y = k % n
  · rw [if_pos (by omega), if_pos (by rw [← e2]; exact e1)]
  · rw [if_neg (by omega), if_neg]
    intro e3
    have e4 : f y = f (k % n) := by rw [e1, e3]
    rcases Nat.lt_or_gt_of_ne e2 with h5 | h5
    · exact (hr _ hc').2.2 _ h5 e4
    · exact (hr _ hyn).2.2 _ h5 e4.symm
/-- .. and the permutation that they make. -/
theorem cross_perm {n : Nat} {f g : Nat → Int} {l : List Nat} (hn : n ≤ 6) (h : Runs n f l g) (hp : permB n f = true) (hd : desc g (n - 1) 0 = none) : ∀ i, i < n → trcF (itsC l) l.length i = f i := by
  intro i hi
  obtain ⟨h1, _, hr⟩ := permB_yes hp
  have hf := fit_cr h.small l.length (Nat.le_refl _)
  have hl := ltF_perm h1 hn hf.1 hf.2 l.length (Nat.le_refl _)
  rw [← invTo_trcF h1 hn hf.1 hf.2 hi]
  obtain ⟨k, hk, e1, e2⟩ := invTo_ex hl hi
  rw [e2]
  have := sorts h hp hd k hk
  rw [e1] at this
  exact this.symm
end Go.Proofs.Ytjodjfllgofkaaa
