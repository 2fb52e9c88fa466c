import Derived.Test.YtjodjfllgofkaaaCk
namespace Amp
theorem fstE_all {g : Nat → Int} {n : Nat} (h : fstE g n = 0) : ∀ k, k < n → g k = 0 := by
  induction n with
  | zero => intro k hk; omega
  | succ n ih =>
    intro k hk
    unfold fstE at h
    by_cases e : fstE g n = 0
    · rw [if_pos e] at h
      by_cases e2 : k = n
      · rw [e2]; exact h
      · exact ih e k (by omega)
    · rw [if_neg e] at h; exact absurd h e
theorem vld_N0 : vld N0 = true := by decide
theorem made_vld (x : C4) (k : Nat) : vld (made x k).1 = true := by
  unfold made
  split
  · next h => exact h
  · exact vld_N0
theorem mulS_vld (x y : Nm) : vld (mulS x y).1 = true := by
  unfold mulS; split
  · exact made_vld _ _
  · exact vld_N0
theorem addS_vld (x y : Nm) : vld (addS x y).1 = true := by
  unfold addS; split
  · exact made_vld _ _
  · exact vld_N0
theorem chgS_vld (z : Nm) (g : C4 → C4) : vld (chgS z g).1 = true := by
  unfold chgS; split
  · exact made_vld _ _
  · exact vld_N0
theorem tot_vld (f : Nat → Nm) (n : Nat) : vld (tot f n).1 = true := by
  induction n with
  | zero => exact vld_N0
  | succ n ih =>
    simp only [tot, stepS]
    split
    · split
      · exact addS_vld _ _
      · exact vld_N0
    · exact ih
theorem sumS_vld (f : Nat → Nm) (n : Nat) : vld (sumS f n).1 = true := by
  unfold sumS; split
  · exact vld_N0
  · split
    · exact tot_vld _ _
    · exact vld_N0
theorem dotS_vld (x y : Nat → Nm) (n : Nat) : vld (dotS x y n).1 = true := by
  unfold dotS; split
  · exact sumS_vld _ _
  · exact vld_N0
theorem okTo_all {f : Nat → Nm} {n : Nat} (h : ∀ k, k < n → vld (f k) = true) : okTo f n = true := by
  induction n with
  | zero => rfl
  | succ n ih => simp only [okTo]; rw [ih (fun k hk => h k (by omega)), h n (by omega)]; rfl
theorem mvS_all {n : Nat} {f : Nat → Nm} (h1 : 0 < n) (h6 : n ≤ 6) (h : ∀ k, vld (f k) = true) : mvS n (n * n) f = true := by
  rw [mvS_go ⟨by omega, by omega⟩ (by rw [Int.natCast_mul])]
  exact okTo_all (fun k _ => h k)
theorem idF_vld (n k : Nat) : vld (idF n k) = true := by
  unfold idF; split
  · decide
  · decide
theorem ownF_vld (x : It) (k : Nat) : vld (ownF x k) = true := by
  unfold ownF; split
  · exact chgS_vld _ _
  · split
    · split <;> decide
    · split <;> decide
theorem sprG_vld {n a s : Nat} {sm : Nat → Nm} (h : ∀ k, vld (sm k) = true) (lim k : Nat) : vld (sprG n a s sm lim k) = true := by
  unfold sprG; split
  · exact h _
  · exact idF_vld _ _
/-- The matrix of an item on n guides. -/
def sprI (n : Nat) (x : It) : Nat → Nm := sprG n (x.at' - 1).toNat (ownS x) (ownF x) (ownS x * ownS x)
theorem sprI_vld (n : Nat) (x : It) (k : Nat) : vld (sprI n x k) = true := sprG_vld (ownF_vld x) _ _
theorem itF_own {n : Nat} {x : It} (h : itF n x = true) : (x.kind = 1 ∨ x.kind = 2 ∨ x.kind = 3) ∧ 1 ≤ x.at' ∧ (x.at' - 1).toNat + ownS x ≤ n ∧ x.at' = ((x.at' - 1).toNat : Int) + 1 ∧ 0 < ownS x := by
  unfold itF at h
  rw [Bool.and_eq_true, Bool.and_eq_true, decide_eq_true_eq, decide_eq_true_eq] at h
  obtain ⟨h1, h2, h3⟩ := h
  have hk : x.kind = 1 ∨ x.kind = 2 ∨ x.kind = 3 := by
    apply Classical.byContradiction
    intro hn
    have e : itB x = false := by unfold itB; rw [if_neg (by omega), if_neg (by omega)]
    rw [e] at h1; cases h1
  have hw : itW x = ownS x := by
    unfold itW ownS
    rcases hk with e | e | e
    · rw [if_pos e, if_pos e]; rfl
    · rw [if_neg (by omega), if_pos (by omega), if_neg (by omega)]; rfl
    · rw [if_neg (by omega), if_pos (by omega), if_neg (by omega)]; rfl
  have hp : 0 < ownS x := by unfold ownS; split <;> omega
  refine ⟨hk, h2, by omega, by omega, hp⟩
theorem fitTo_at {n : Nat} {f : Nat → It} {len : Nat} (h : fitTo n f len = true) {k : Nat} (hk : k < len) : itF n (f k) = true := by
  cases e : itF n (f k)
  · rw [fitTo_stop e len hk] at h; cases h
  · rfl
end Amp
namespace Go.Proofs.Ytjodjfllgofkaaa
open Go.RowKit Amp
attribute [local go_sem] ix0 ix1 ix2 ix3 jx0 jx1 jx2 jx3
attribute [local go_sem high] run_eqNum run_neNum

theorem mulF_vld (n : Nat) (x y : Nat → Nm) (k : Nat) : vld (mulF n x y k) = true := dotS_vld _ _ _
/-- The product of the matrices of the first k items, or the error. -/
def prodS (n : Nat) (f : Nat → It) : Nat → (Nat → Nm) × Int
  | 0 => (idF n, 0)
  | k + 1 => if (prodS n f k).2 = 0 then (mulF n (sprI n (f k)) (prodS n f k).1, mulE n (sprI n (f k)) (prodS n f k).1) else prodS n f k
theorem prodS_stay {n : Nat} {f : Nat → It} {k : Nat} (h : (prodS n f k).2 ≠ 0) : ∀ m, k ≤ m → prodS n f m = prodS n f k := by
  intro m
  induction m with
  | zero => intro hk; obtain rfl : k = 0 := (by omega); rfl
  | succ m ih =>
    intro hk
    by_cases e : k = m + 1
    · subst e; rfl
    · have := ih (by omega)
      rw [prodS, this, if_neg h]
theorem prodS_step {n : Nat} {f : Nat → It} {k : Nat} (h : (prodS n f k).2 = 0) : prodS n f (k + 1) = (mulF n (sprI n (f k)) (prodS n f k).1, mulE n (sprI n (f k)) (prodS n f k).1) := by rw [prodS, if_pos h]
theorem prodS_vld (n : Nat) (f : Nat → It) (k j : Nat) : vld ((prodS n f k).1 j) = true := by
  induction k with
  | zero => exact idF_vld _ _
  | succ k ih =>
    rw [prodS]; split
    · exact mulF_vld _ _ _ _
    · exact ih
theorem mMul_ok (n g h cap dap : Nat) (x y : Nat → Nm) (w : World) (h1 : 0 < n) (hn : n ≤ 6) (hcap : n * n ≤ cap) (hcm : cap ≤ 9223372036854775807) (hx : Numw w g (n * n) x) (hy : Numw w h (n * n) y) (hv : Hid (mvS n (n * n) x = true)) (hu : Hid (mvS n (n * n) y = true)) (he : Hid (mulE n x y = 0)) :
    Calls Try.prog 86 #[.agg #[.int .i64 n, .slice (some ⟨g, 0, none⟩) (n * n) cap], .agg #[.int .i64 n, .slice (some ⟨h, 0, none⟩) (n * n) dap]] w fun e w' => MatW w.heap.size w' e n (mulF n x y) ∧ Below w.heap.size w w' :=
  (mMul_yes n g h cap dap x y w h1 hn hcap hcm hx hy hv hu).mono fun e w' ⟨hm, hb⟩ => ⟨by
    rcases hm with ⟨_, hm⟩ | ⟨hn, _⟩
    · exact hm
    · exact absurd he.out hn, hb⟩
theorem mMul_err (n g h cap dap : Nat) (x y : Nat → Nm) (w : World) (h1 : 0 < n) (hn : n ≤ 6) (hcap : n * n ≤ cap) (hcm : cap ≤ 9223372036854775807) (hx : Numw w g (n * n) x) (hy : Numw w h (n * n) y) (hv : Hid (mvS n (n * n) x = true)) (hu : Hid (mvS n (n * n) y = true)) (he : Hid (¬ mulE n x y = 0)) :
    Calls Try.prog 86 #[.agg #[.int .i64 n, .slice (some ⟨g, 0, none⟩) (n * n) cap], .agg #[.int .i64 n, .slice (some ⟨h, 0, none⟩) (n * n) dap]] w fun e w' => e = .returned (.tuple #[.agg #[.int .i64 0, .slice none 0 0], .int .i64 (mulE n x y)]) ∧ Below w.heap.size w w' :=
  (mMul_yes n g h cap dap x y w h1 hn hcap hcm hx hy hv hu).mono fun e w' ⟨hm, hb⟩ => ⟨by
    rcases hm with ⟨hn, _⟩ | ⟨_, hm⟩
    · exact absurd hn he.out
    · exact hm, hb⟩
theorem own_any (k at' m : Int) (nm : ByteArray) (w : World) (h : k = 1 ∨ k = 2 ∨ k = 3) :
    Calls Try.prog 56 #[.agg #[.int .i64 k, .int .i64 at', .int .i64 m, .string nm], .map none] w fun e w' => OwnIs w.heap.size w' e (ownS ⟨k, at', m, nm⟩) (ownF ⟨k, at', m, nm⟩) ∧ Below w.heap.size w w' := by
  rcases h with rfl | rfl | rfl
  · exact own_phase at' m nm w
  · exact own_couple at' m nm w
  · exact own_cross at' m nm w
end Go.Proofs.Ytjodjfllgofkaaa
