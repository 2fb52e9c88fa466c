import Derived.Test.YtjodjfllgofkaaaIb
import Derived.RegionTactic
namespace Prm
/-- The sum of h 0, .., h (n - 1). -/
def S : Nat → (Nat → Nat) → Nat
  | 0, _ => 0
  | n + 1, h => S n h + h n
theorem S_congr {n : Nat} {h h' : Nat → Nat} (e : ∀ k, k < n → h k = h' k) : S n h = S n h' := by
  induction n with
  | zero => rfl
  | succ n ih => simp only [S]; rw [ih fun k hk => e k (by omega), e n (by omega)]
theorem S_add (n : Nat) (h h' : Nat → Nat) : S n (fun k => h k + h' k) = S n h + S n h' := by
  induction n with
  | zero => rfl
  | succ n ih => simp only [S]; rw [ih]; omega
theorem S_zero (n : Nat) : S n (fun _ => 0) = 0 := by
  induction n with
  | zero => rfl
  | succ n ih => simp only [S]; rw [ih]
theorem S_nul {n : Nat} {h : Nat → Nat} (e : ∀ k, k < n → h k = 0) : S n h = 0 := (S_congr e).trans (S_zero n)
theorem S_swap (n m : Nat) (h : Nat → Nat → Nat) : S n (fun a => S m (fun b => h a b)) = S m (fun b => S n (fun a => h a b)) := by
  induction n with
  | zero => simp only [S]; exact (S_zero m).symm
  | succ n ih => simp only [S]; rw [ih, S_add]
theorem S_one {n k : Nat} (hk : k < n) (c : Nat) : S n (fun a => if a = k then c else 0) = c := by
  induction n with
  | zero => omega
  | succ n ih =>
    simp only [S]
    by_cases e : k = n
    · subst e
      rw [if_pos rfl, S_nul fun a ha => if_neg (by omega)]; omega
    · rw [ih (by omega), if_neg (fun h => e h.symm)]; omega
theorem S_le {n : Nat} {h h' : Nat → Nat} (e : ∀ k, k < n → h k ≤ h' k) : S n h ≤ S n h' := by
  induction n with
  | zero => exact Nat.le_refl _
  | succ n ih => simp only [S]; have := ih fun k hk => e k (by omega); have := e n (by omega); omega
theorem S_const (n c : Nat) : S n (fun _ => c) = n * c := by
  induction n with
  | zero => simp [S]
  | succ n ih => simp only [S]; rw [ih, Nat.succ_mul]
/-- Is x among s 0, .., s (k - 1)? -/
def hit (s : Nat → Nat) : Nat → Nat → Bool
  | 0, _ => false
  | k + 1, x => hit s k x || decide (s k = x)
theorem hit_iff {s : Nat → Nat} {k x : Nat} : hit s k x = true ↔ ∃ j, j < k ∧ s j = x := by
  induction k with
  | zero => simp [hit]
  | succ k ih =>
    simp only [hit, Bool.or_eq_true, ih, decide_eq_true_eq]
    constructor
    · rintro (⟨j, hj, e⟩ | e)
      · exact ⟨j, by omega, e⟩
      · exact ⟨k, by omega, e⟩
    · rintro ⟨j, hj, e⟩
      by_cases ej : j = k
      · subst ej; exact .inr e
      · exact .inl ⟨j, by omega, e⟩
/-- s is a bijection of the numbers below n: injective and into them. -/
def Bij (n : Nat) (s : Nat → Nat) : Prop := (∀ k, k < n → s k < n) ∧ ∀ j k, j < k → k < n → s j ≠ s k
theorem Bij.hit_next {n : Nat} {s : Nat → Nat} (h : Bij n s) {k : Nat} (hk : k < n) : hit s k (s k) = false := by
  cases e : hit s k (s k) with
  | false => rfl
  | true =>
    obtain ⟨j, hj, e'⟩ := hit_iff.1 e
    exact absurd e' (h.2 j k hj hk)
theorem Bij.sum_hit {n : Nat} {s : Nat → Nat} (h : Bij n s) (g : Nat → Nat) {m : Nat} (hm : m ≤ n) : S m (fun k => g (s k)) = S n (fun x => if hit s m x = true then g x else 0) := by
  induction m with
  | zero => simp only [S, hit]; exact (S_nul fun _ _ => if_neg (by simp)).symm
  | succ m ih =>
    simp only [S]
    rw [ih (by omega), ← S_one (h.1 m (by omega)) (g (s m)), ← S_add]
    refine S_congr fun x hx => ?_
    simp only [hit, Bool.or_eq_true, decide_eq_true_eq]
    by_cases e : x = s m
    · subst e
      rw [h.hit_next (by omega)]
      simp
    · rw [if_neg e]
      have e' : ¬ s m = x := fun h => e h.symm
      simp [e']
theorem Bij.onto {n : Nat} {s : Nat → Nat} (h : Bij n s) {x : Nat} (hx : x < n) : hit s n x = true := by
  have e1 := h.sum_hit (fun _ => 1) (Nat.le_refl n)
  rw [S_const] at e1
  cases hh : hit s n x with
  | true => rfl
  | false =>
    exfalso
    have e2 : S n (fun y => if hit s n y = true then 1 else 0) + S n (fun y => if y = x then 1 else 0) ≤ S n (fun _ => 1) := by
      rw [← S_add]
      refine S_le fun y _ => ?_
      by_cases ey : y = x
      · subst ey; rw [hh]; simp
      · rw [if_neg ey]; split <;> omega
    rw [S_one hx, S_const, ← e1] at e2
    omega
theorem Bij.sum {n : Nat} {s : Nat → Nat} (h : Bij n s) (g : Nat → Nat) : S n (fun k => g (s k)) = S n g := by
  rw [h.sum_hit g (Nat.le_refl n)]
  exact S_congr fun x hx => if_pos (h.onto hx)

/-- The pairs a < b with f a > f b. -/
def inv (n : Nat) (f : Nat → Int) : Nat := S n (fun b => S n (fun a => if a < b ∧ f b < f a then 1 else 0))
theorem inv_congr {n : Nat} {f f' : Nat → Int} (e : ∀ i, i < n → f i = f' i) : inv n f = inv n f' :=
  S_congr fun b hb => S_congr fun a ha => by rw [e a ha, e b hb]
theorem inv_le (n : Nat) (f : Nat → Int) : inv n f ≤ n * n := by
  rw [← S_const n n]
  refine S_le fun b _ => ?_
  have := S_const n 1
  rw [Nat.mul_one] at this
  refine Nat.le_trans (S_le (h' := fun _ => 1) fun a _ => ?_) (Nat.le_of_eq this)
  split <;> omega
/-- The neighbours k and k + 1 exchanged. -/
def swp (f : Nat → Int) (k : Nat) : Nat → Int := fun i => if i = k then f (k + 1) else if i = k + 1 then f k else f i
def tau (k i : Nat) : Nat := if i = k then k + 1 else if i = k + 1 then k else i
theorem swp_tau (f : Nat → Int) (k i : Nat) : swp f k i = f (tau k i) := by
  unfold swp tau
  by_cases h1 : i = k
  · rw [if_pos h1, if_pos h1]
  · rw [if_neg h1, if_neg h1]
    by_cases h2 : i = k + 1
    · rw [if_pos h2, if_pos h2]
    · rw [if_neg h2, if_neg h2]
theorem tau_tau (k i : Nat) : tau k (tau k i) = i := by
  unfold tau
  repeat' split
  all_goals omega
theorem tau_bij {n k : Nat} (hk : k + 1 < n) : Bij n (tau k) := by
  refine ⟨fun i hi => ?_, fun i j hij hj e => ?_⟩
  · unfold tau; repeat' split
    all_goals omega
  · have := congrArg (tau k) e
    rw [tau_tau, tau_tau] at this
    omega
theorem inv_swp {n k : Nat} {f : Nat → Int} (hk : k + 1 < n) (h : f (k + 1) < f k) : inv n (swp f k) + 1 = inv n f := by
  have e1 : inv n (swp f k) = S n (fun b => S n (fun a => if tau k a < tau k b ∧ f b < f a then 1 else 0)) := by
    unfold inv
    rw [← (tau_bij hk).sum (fun b => S n (fun a => if tau k a < tau k b ∧ f b < f a then 1 else 0))]
    refine S_congr fun b hb => ?_
    rw [← (tau_bij hk).sum (fun a => if tau k a < tau k (tau k b) ∧ f (tau k b) < f a then 1 else 0)]
    refine S_congr fun a ha => ?_
    rw [tau_tau, tau_tau, swp_tau, swp_tau]
  have e2 : S n (fun b => S n (fun a => if a = k then (if b = k + 1 then 1 else 0) else 0)) = 1 := by
    rw [S_congr (h' := fun b => if b = k + 1 then 1 else 0) fun b _ => S_one (by omega) _]
    exact S_one hk 1
  have e3 : inv n (swp f k) + 1 = S n (fun b => S n (fun a => if tau k a < tau k b ∧ f b < f a then 1 else 0)) + S n (fun b => S n (fun a => if a = k then (if b = k + 1 then 1 else 0) else 0)) := by rw [e1, e2]
  rw [e3, ← S_add]
  unfold inv
  refine S_congr fun b hb => ?_
  rw [← S_add]
  refine S_congr fun a ha => ?_
  by_cases h1 : a = k
  · subst h1
    rw [if_pos rfl]
    by_cases h2 : b = a + 1
    · subst h2
      have t1 : tau a a = a + 1 := by simp [tau]
      have t2 : tau a (a + 1) = a := by simp [tau]
      rw [t1, t2, if_neg (by omega), if_pos rfl, if_pos ⟨by omega, h⟩]
    · rw [if_neg h2, Nat.add_zero]
      have t1 : tau a a = a + 1 := by simp [tau]
      by_cases h3 : b = a
      · subst h3; rw [if_neg (by omega), if_neg (by omega)]
      · have t2 : tau a b = b := by simp [tau, h2, h3]
        rw [t1, t2]
        by_cases h4 : a + 1 < b
        · by_cases h5 : f b < f a
          · rw [if_pos ⟨h4, h5⟩, if_pos ⟨by omega, h5⟩]
          · rw [if_neg (fun h => h5 h.2), if_neg (fun h => h5 h.2)]
        · rw [if_neg (fun h => h4 h.1), if_neg (by omega)]
  · rw [if_neg h1, Nat.add_zero]
    by_cases h2 : a = k + 1
    · subst h2
      have t1 : tau k (k + 1) = k := by simp [tau]
      rw [t1]
      by_cases h3 : b = k
      · subst h3
        rw [if_neg (by omega), if_neg (by omega)]
      · by_cases h3' : b = k + 1
        · subst h3'; rw [t1, if_neg (by omega), if_neg (by omega)]
        · have t2 : tau k b = b := by simp [tau, h3, h3']
          rw [t2]
          by_cases h4 : k + 1 < b
          · by_cases h5 : f b < f (k + 1)
            · rw [if_pos ⟨by omega, h5⟩, if_pos ⟨by omega, h5⟩]
            · rw [if_neg (fun h => h5 h.2), if_neg (fun h => h5 h.2)]
          · rw [if_neg (by omega), if_neg (by omega)]
    · have t1 : tau k a = a := by simp [tau, h1, h2]
      rw [t1]
      by_cases h3 : b = k
      · subst h3
        have t2 : tau b b = b + 1 := by simp [tau]
        rw [t2]
        by_cases h4 : a < b
        · by_cases h5 : f b < f a
          · rw [if_pos ⟨by omega, h5⟩, if_pos ⟨by omega, h5⟩]
          · rw [if_neg (fun h => h5 h.2), if_neg (fun h => h5 h.2)]
        · rw [if_neg (by omega), if_neg (by omega)]
      · by_cases h3' : b = k + 1
        · subst h3'
          have t2 : tau k (k + 1) = k := by simp [tau]
          rw [t2]
          by_cases h4 : a < k
          · by_cases h5 : f (k + 1) < f a
            · rw [if_pos ⟨by omega, h5⟩, if_pos ⟨by omega, h5⟩]
            · rw [if_neg (fun h => h5 h.2), if_neg (fun h => h5 h.2)]
          · rw [if_neg (by omega), if_neg (by omega)]
        · have t2 : tau k b = b := by simp [tau, h3, h3']
          rw [t2]
/-- The first place whose number is greater than the next one. -/
def desc (f : Nat → Int) : Nat → Nat → Option Nat
  | 0, _ => none
  | m + 1, k => if f (k + 1) < f k then some k else desc f m (k + 1)
theorem desc_none {f : Nat → Int} {m k : Nat} (h : desc f m k = none) : ∀ j, k ≤ j → j < k + m → f j ≤ f (j + 1) := by
  induction m generalizing k with
  | zero => intro j h1 h2; omega
  | succ m ih =>
    intro j h1 h2
    simp only [desc] at h
    by_cases e : f (k + 1) < f k
    · rw [if_pos e] at h; cases h
    · rw [if_neg e] at h
      by_cases ej : j = k
      · subst ej; omega
      · exact ih h j (by omega) (by omega)
theorem desc_some {f : Nat → Int} {m k r : Nat} (h : desc f m k = some r) : k ≤ r ∧ r < k + m ∧ f (r + 1) < f r := by
  induction m generalizing k with
  | zero => cases h
  | succ m ih =>
    simp only [desc] at h
    by_cases e : f (k + 1) < f k
    · rw [if_pos e] at h; cases h; exact ⟨by omega, by omega, e⟩
    · rw [if_neg e] at h
      have := ih h
      exact ⟨by omega, by omega, this.2.2⟩
theorem desc_congr {f g : Nat → Int} {m k : Nat} (e : ∀ i, i < k + m + 1 → f i = g i) : desc f m k = desc g m k := by
  induction m generalizing k with
  | zero => rfl
  | succ m ih =>
    simp only [desc]
    rw [e k (by omega), e (k + 1) (by omega), ih (k := k + 1) fun i hi => e i (by omega)]
theorem inv_none {n : Nat} {f : Nat → Int} (h : desc f (n - 1) 0 = none) : inv n f = 0 := by
  have hs := desc_none h
  have mono : ∀ d a, a + d < n → f a ≤ f (a + d) := by
    intro d
    induction d with
    | zero => intro a _; exact Int.le_refl _
    | succ d ih =>
      intro a ha
      have h1 := ih a (by omega)
      have h2 := hs (a + d) (by omega) (by omega)
      have e : a + (d + 1) = a + d + 1 := by omega
      rw [e]; omega
  refine S_nul fun b hb => S_nul fun a ha => if_neg ?_
  rintro ⟨h1, h2⟩
  have := mono (b - a) a (by omega)
  rw [show a + (b - a) = b by omega] at this
  omega
/-- What becomes of f by exchanges at the places of the list, each the first one to be exchanged. -/
inductive Runs (n : Nat) (f : Nat → Int) : List Nat → (Nat → Int) → Prop
  | nil : Runs n f [] f
  | step {l : List Nat} {g : Nat → Int} {k : Nat} : Runs n f l g → desc g (n - 1) 0 = some k → Runs n f (l ++ [k]) (swp g k)
theorem Runs.inv {n : Nat} {f g : Nat → Int} {l : List Nat} (h : Runs n f l g) : l.length + Prm.inv n g = Prm.inv n f := by
  induction h with
  | nil => simp
  | step _ hd ih =>
    obtain ⟨_, h2, h3⟩ := desc_some hd
    have := inv_swp (n := n) (by omega) h3
    simp only [List.length_append, List.length_cons, List.length_nil]
    omega
end Prm

namespace Prm
def opI : Option Nat → Int
  | some k => k
  | none => -1
end Prm
namespace Go.Proofs.Ytjodjfllgofkaaa
open Go.RowKit Prm
theorem addr0 (g j : Nat) : (⟨g, 0, none⟩ : Addr).add j = ⟨g, j, none⟩ := by unfold Addr.add; split <;> simp_all

set_option maxRecDepth 100000 in
set_option maxHeartbeats 2000000 in
theorem descent_any (n cap : Nat) (ao : Option Addr) (f : Nat → Int) (w : World) (h1 : 1 ≤ n) (hn : n ≤ 9223372036854775807) (hc : Ints w ao n f) :
    Calls Try.prog 102 #[.slice ao n cap] w fun e w' => e = .returned (.int .i64 (opI (desc f (n - 1) 0))) ∧ Below w.heap.size w w' := by
  have HC := Lib.hid hc
  have h1' : 1 ≤ (n : Int) := by omega
  clear hc
  obtain ⟨r, hr⟩ : ∃ r, desc f (n - 1) 0 = r := ⟨_, rfl⟩
  have HR := Lib.hid hr
  rw [hr]
  clear hr
  go_enter Try.func102, Try.ntmps102
  go_wp2_with fail
  go_loopw [3, 7] (fun _ i wr => ∃ k : Nat, i = .int .i64 k ∧ k ≤ n - 1 ∧ Hid (desc f (n - 1 - k) k = r) ∧ Below w.heap.size w wr) (fun _ i _ => n - 1 - (intOf i).toNat)
  case atStart => exact ⟨0, rfl, Nat.zero_le _, HR, by go_grown⟩
  case round =>
    obtain ⟨k, rfl, hk, HK, hbel⟩ := hrel
    by_cases hlt : k < n - 1
    · have hlt' : (k : Int) < (n : Int) - 1 := by omega
      have hlt2 : k < n := by omega
      obtain ⟨b, o, rfl, hcell⟩ := (Ints.keep HC.out hbel) (by omega)
      have c0 := hcell k (by omega)
      have c1 := hcell (k + 1) (by omega)
      obtain ⟨x, hx⟩ : ∃ x, f k = x := ⟨_, rfl⟩
      obtain ⟨y, hy⟩ : ∃ y, f (k + 1) = y := ⟨_, rfl⟩
      rw [hx] at c0
      rw [hy] at c1
      have HX := Lib.hid hx
      have HY := Lib.hid hy
      clear hcell hx hy
      have e1 : n - 1 - k = (n - 1 - (k + 1)) + 1 := by omega
      have HE : Hid (desc f (n - 1 - k) k = if y < x then some k else desc f (n - 1 - (k + 1)) (k + 1)) := Lib.hid (by rw [e1]; simp only [desc]; rw [HX.out, HY.out])
      clear e1
      by_cases hxy : y < x
      · have HF : Hid (r = some k) := Lib.hid (by rw [← HK.out, HE.out, if_pos hxy])
        go_wp2_with fail
        go_region
        all_goals
          go_wp2_with fail
          go_returns
          exact ⟨by rw [HF.out] <;> rfl, by go_grown⟩
      · have HF : Hid (desc f (n - 1 - (k + 1)) (k + 1) = r) := Lib.hid (by rw [← HK.out, HE.out, if_neg hxy])
        have hxy' : x ≤ y := by omega
        clear hxy
        go_wp2_with fail
        go_region
        all_goals
          go_wp2_with fail
          go_roundw
          case rel => exact ⟨k + 1, by go_num, by omega, HF, by go_grown⟩
          case measure => simp [intOf]; omega
    · obtain rfl : k = n - 1 := by omega
      have hge : ¬ (((n - 1 : Nat) : Int) < (n : Int) - 1) := by omega
      have HF : Hid (r = none) := Lib.hid (by rw [← HK.out, Nat.sub_self]; rfl)
      go_wp2_with fail
      go_returns
      exact ⟨by rw [HF.out] <;> rfl, hbel⟩

set_option maxRecDepth 100000 in
set_option maxHeartbeats 2000000 in
theorem clone_any (n cap b o : Nat) (f : Nat → Int) (w : World) (h1 : 1 ≤ n) (hn : n ≤ 64) (hc : ∀ i, i < n → w.cell? ⟨b, o + i, none⟩ = some (.int .i64 (f i))) :
    Calls Try.prog 101 #[.slice (some ⟨b, o, none⟩) n cap] w fun e w' => IntsRet w.heap.size w' e n f ∧ Below w.heap.size w w' := by
  obtain ⟨i0, hi, hz0, hz1, hz2⟩ := info_parts infoInt
  have HI := Lib.hid (And.intro hi (And.intro hz0 (And.intro hz1 hz2)))
  have HC := Lib.hid hc
  have hnil := fun (w : World) (a : Option Addr) (m c : Nat) => Lib.run_eql_slice_nil (P := Try.prog) w 36 3 a m c 0 0 Try.underlying36
  clear hi hz0 hz1 hz2 hc
  go_enter Try.func101, Try.ntmps101
  go_wp2_with (at_builtin; refine wpList_append_own _ rfl (.tmp 5) (.tmp 6) 36 rfl w.heap.size 3 i0 _ 1 8 Try.underlying36 HI.out.1 HI.out.2.1 HI.out.2.2.1 HI.out.2.2.2 rfl (by decide) _ 0 [] rfl (World.ownsRow_made w #[] 0 (Nat.le_refl _) (by unfold maxLen; omega) rfl) ⟨b, o, none⟩ n cap (cellsI f n) rfl ?c0 ?c1 ?c2 ?c3 ?c4 ?c5 ?_)
  case c0 => rw [cellsI_len]; omega
  case c1 =>
    intro j u hu
    have hj : j < n := by have := (List.getElem?_eq_some_iff.1 hu).1; rwa [cellsI_len] at this
    rw [cellsI_get f hj] at hu
    rw [Addr.add_lit, ← hu]
    have hb : b < w.heap.size := World.block_lt_of_cell? w _ (HC.out j hj)
    exact (((Below.refl _ _).alloc (Nat.le_refl _) _).cell (p := ⟨b, o + j, none⟩) hb).trans (HC.out j hj)
  case c2 => exact cellsI_one f n
  case c3 => unfold maxLen; omega
  case c4 => omega
  case c5 => first | omega | (simp; done) | (simp; omega)
  intro v' w2 hown hgrow _
  (try simp only [Nat.zero_add, List.nil_append] at hown)
  obtain ⟨g, cap', rfl, hgB, hgs, hgc, hgm⟩ := own_fm hown h1
  have HW : Hid (Intw w2 g n f) := Lib.hid (Intw.of_own hown fun i hi => cellsI_get f hi)
  have D2 : Below w.heap.size w w2 := Below.grown (by go_grown) hgrow (by first | omega | (simp; done) | (simp; omega)) (fun k hk => by simp [Value.ownBlock] at hk; omega)
  have HG := Lib.hid (And.intro hgB (And.intro hgs (And.intro hgc hgm)))
  clear hown hgrow hgB hgs hgc hgm
  go_wp2_with fail
  go_returns
  exact ⟨⟨g, cap', rfl, HW.out, HG.out.1, HG.out.2.1, HG.out.2.2.1, HG.out.2.2.2⟩, D2⟩
end Go.Proofs.Ytjodjfllgofkaaa
