import Derived.Test.YtldepffpafccpaaRc6
namespace Go.Proofs.Ytldepffpafccpaa
open Go.RowKit Heat
theorem nxO_none {top : Int} (h0 : 0 ≤ top) : ∀ (m : Nat) (p : Nat → Int), nxO top m p = none → (∀ i, 0 ≤ p i ∧ p i ≤ top) → rk top p m + 1 = (top + 1) ^ m
  | 0, _, _, _ => by unfold rk; simp
  | k + 1, p, h, hp => by
    unfold nxO at h
    by_cases hk : p k < top
    · rw [if_pos hk] at h; exact absurd h (by simp)
    · rw [if_neg hk] at h
      have hp' : ∀ i, 0 ≤ updI p k 0 i ∧ updI p k 0 i ≤ top := fun i => by
        unfold updI
        split
        · omega
        · exact hp i
      have h1 := nxO_none h0 k _ h hp'
      rw [rk_upd (Nat.le_refl _)] at h1
      have := hp k
      have e : p k = top := by omega
      unfold rk
      rw [Int.pow_succ, ← h1, e, Int.add_mul]
      omega
theorem seq_some {n : Nat} {top : Int} (h0 : 0 ≤ top) : ∀ t : Nat, (t : Int) < (top + 1) ^ n → ∃ p, seqP n top t = some p
  | 0, _ => ⟨_, rfl⟩
  | t + 1, h => by
    obtain ⟨p, hp⟩ := seq_some (n := n) h0 t (by omega)
    obtain ⟨a, _, c⟩ := seq_inv h0 t p hp
    cases hx : nxO top n p with
    | none =>
      have := nxO_none h0 n p hx a
      omega
    | some q => exact ⟨q, by rw [seq_step hp, hx]; rfl⟩
theorem mul_inj {a b x y T : Int} (hx : 0 ≤ x ∧ x ≤ T) (hy : 0 ≤ y ∧ y ≤ T) (h : a * (T + 1) + x = b * (T + 1) + y) : a = b ∧ x = y := by
  have hp : (0 : Int) < T + 1 := by omega
  have h1 : (a * (T + 1) + x) / (T + 1) = a := by
    rw [Int.add_comm, Int.add_mul_ediv_right _ _ (by omega), Int.ediv_eq_zero_of_lt hx.1 (by omega)]; omega
  have h2 : (b * (T + 1) + y) / (T + 1) = b := by
    rw [Int.add_comm, Int.add_mul_ediv_right _ _ (by omega), Int.ediv_eq_zero_of_lt hy.1 (by omega)]; omega
  have e : a = b := by rw [← h1, ← h2, h]
  subst e
  exact ⟨rfl, by omega⟩
theorem rk_inj {top : Int} {p q : Nat → Int} (hp : ∀ i, 0 ≤ p i ∧ p i ≤ top) (hq : ∀ i, 0 ≤ q i ∧ q i ≤ top) : ∀ n, rk top p n = rk top q n → ∀ i, i < n → p i = q i
  | 0, _, _, h => by omega
  | k + 1, h, i, hi => by
    unfold rk at h
    obtain ⟨h1, h2⟩ := mul_inj (hp k) (hq k) h
    by_cases e : i = k
    · subst e; exact h2
    · exact rk_inj hp hq k h1 i (by omega)
theorem rk_nn {top : Int} {p : Nat → Int} (h0 : 0 ≤ top) (hp : ∀ i, 0 ≤ p i ∧ p i ≤ top) : ∀ n, 0 ≤ rk top p n
  | 0 => by unfold rk; omega
  | k + 1 => by
    have h1 := Int.mul_nonneg (rk_nn h0 hp k) (show 0 ≤ top + 1 by omega)
    have := hp k
    unfold rk
    omega
/-- Every list stands in the order. -/
theorem seq_all {n : Nat} {top : Int} (h0 : 0 ≤ top) {q : Nat → Int} (hq : ∀ i, 0 ≤ q i ∧ q i ≤ top) (hz : ∀ i, n ≤ i → q i = 0) : ∃ t, seqP n top t = some q ∧ (t : Int) < (top + 1) ^ n := by
  have hn := rk_nn h0 hq n
  have hb := rk_bd h0 hq n
  obtain ⟨t, ht⟩ := Int.eq_ofNat_of_zero_le hn
  obtain ⟨p, hp⟩ := seq_some (n := n) h0 t (by omega)
  obtain ⟨a, b, c⟩ := seq_inv h0 t p hp
  refine ⟨t, ?_, by omega⟩
  rw [hp]
  congr 1
  funext i
  by_cases hi : i < n
  · exact rk_inj a hq n (by omega) i hi
  · rw [b i (by omega), hz i (by omega)]
theorem ch_least {near : (Nat → Int) → Bool} {n : Nat} {top : Int} : ∀ t : Nat, (∀ b, chT near n top t = some b → near b = true ∧ ∃ t', t' < t ∧ seqP n top t' = some b) ∧ ∀ t' q, t' < t → seqP n top t' = some q → near q = true → ∃ b, chT near n top t = some b ∧ sm b ≤ sm q
  | 0 => ⟨fun b h => by simp [chT] at h, fun t' q h => by omega⟩
  | t + 1 => by
    obtain ⟨h1, h2⟩ := ch_least (near := near) (n := n) (top := top) t
    cases hs : seqP n top t with
    | none =>
      have e : chT near n top (t + 1) = chT near n top t := (seq_end (near := near) hs 1).2
      rw [e]
      refine ⟨fun b hb => ?_, fun t' q ht hq hn => ?_⟩
      · obtain ⟨a, t', b1, b2⟩ := h1 b hb
        exact ⟨a, t', by omega, b2⟩
      · by_cases e2 : t' = t
        · subst e2; rw [hs] at hq; simp at hq
        · exact h2 t' q (by omega) hq hn
    | some p =>
      rw [ch_step hs]
      unfold updB
      cases hc : chT near n top t with
      | none =>
        rw [if_neg (by simp)]
        by_cases hn : near p = true
        · rw [if_pos hn]
          refine ⟨fun b hb => ?_, fun t' q ht hq hnq => ?_⟩
          · obtain rfl := Option.some.inj hb
            exact ⟨hn, t, by omega, hs⟩
          · by_cases e2 : t' = t
            · subst e2; rw [hs] at hq; obtain rfl := Option.some.inj hq; exact ⟨p, rfl, Int.le_refl _⟩
            · obtain ⟨b, hb, _⟩ := h2 t' q (by omega) hq hnq
              rw [hc] at hb; simp at hb
        · rw [if_neg hn]
          refine ⟨fun b hb => by simp at hb, fun t' q ht hq hnq => ?_⟩
          by_cases e2 : t' = t
          · subst e2; rw [hs] at hq; obtain rfl := Option.some.inj hq; exact absurd hnq hn
          · obtain ⟨b, hb, _⟩ := h2 t' q (by omega) hq hnq
            rw [hc] at hb; simp at hb
      | some b0 =>
        have hopt : opL (some b0) = b0 := rfl
        rw [hopt]
        obtain ⟨n0, t0, l0, s0⟩ := h1 b0 hc
        by_cases hle : sm b0 ≤ sm p
        · rw [if_pos (by simp [hle])]
          refine ⟨fun b hb => ?_, fun t' q ht hq hnq => ?_⟩
          · obtain rfl := Option.some.inj hb
            exact ⟨n0, t0, by omega, s0⟩
          · by_cases e2 : t' = t
            · subst e2; rw [hs] at hq; obtain rfl := Option.some.inj hq; exact ⟨b0, rfl, hle⟩
            · obtain ⟨b, hb, hl⟩ := h2 t' q (by omega) hq hnq
              rw [hc] at hb; obtain rfl := Option.some.inj hb
              exact ⟨b0, rfl, hl⟩
        · rw [if_neg (by simp [hle])]
          by_cases hn : near p = true
          · rw [if_pos hn]
            refine ⟨fun b hb => ?_, fun t' q ht hq hnq => ?_⟩
            · obtain rfl := Option.some.inj hb
              exact ⟨hn, t, by omega, hs⟩
            · by_cases e2 : t' = t
              · subst e2; rw [hs] at hq; obtain rfl := Option.some.inj hq; exact ⟨p, rfl, Int.le_refl _⟩
              · obtain ⟨b, hb, hl⟩ := h2 t' q (by omega) hq hnq
                rw [hc] at hb; obtain rfl := Option.some.inj hb
                exact ⟨p, rfl, by omega⟩
          · rw [if_neg hn]
            refine ⟨fun b hb => ?_, fun t' q ht hq hnq => ?_⟩
            · obtain rfl := Option.some.inj hb
              exact ⟨n0, t0, by omega, s0⟩
            · by_cases e2 : t' = t
              · subst e2; rw [hs] at hq; obtain rfl := Option.some.inj hq; exact absurd hnq hn
              · obtain ⟨b, hb, hl⟩ := h2 t' q (by omega) hq hnq
                rw [hc] at hb; obtain rfl := Option.some.inj hb
                exact ⟨b0, rfl, hl⟩
/-- The cheapest powers are powers, near what is wanted, and none of them are cheaper. -/
theorem chP_least {N : Nat} {F : Nat → Nat → Int} {B : Nat → Int} {s top : Int} (hN : N ≤ 3) (h0 : 0 ≤ top) (h1 : top ≤ 20) : (∀ b, chP N F B s top = some b → nearF N F B s b = true ∧ (∀ i, 0 ≤ b i ∧ b i ≤ top) ∧ ∀ i, N ≤ i → b i = 0) ∧
    ∀ q, (∀ i, 0 ≤ q i ∧ q i ≤ top) → (∀ i, N ≤ i → q i = 0) → nearF N F B s q = true → ∃ b, chP N F B s top = some b ∧ sm b ≤ sm q := by
  obtain ⟨a, b⟩ := ch_least (near := nearF N F B s) (n := N) (top := top) 9300
  refine ⟨fun c hc => ?_, fun q hq hz hn => ?_⟩
  · obtain ⟨n1, t', _, hs⟩ := a c hc
    obtain ⟨x, y, _⟩ := seq_inv h0 t' c hs
    exact ⟨n1, x, y⟩
  · obtain ⟨t, ht, hl⟩ := seq_all h0 hq hz
    have := pow_bd h0 h1 hN
    exact b t q (by omega) ht hn
theorem near_more {N : Nat} {F : Nat → Nat → Int} {B : Nat → Int} {s s' : Int} {p : Nat → Int} (h : nearF N F B s p = true) (hs : s ≤ s') : nearF N F B s' p = true := by
  unfold nearF at *
  rw [inTo_iff] at *
  intro k hk
  have := h k hk
  omega
/-- A greater slack or top never makes them dearer. -/
theorem chP_more {N : Nat} {F : Nat → Nat → Int} {B : Nat → Int} {s s' top top' : Int} (hN : N ≤ 3) (h0 : 0 ≤ top) (h1 : top ≤ top') (h2 : top' ≤ 20) (hs : s ≤ s') {b : Nat → Int} (h : chP N F B s top = some b) : ∃ b', chP N F B s' top' = some b' ∧ sm b' ≤ sm b := by
  obtain ⟨x, y, z⟩ := (chP_least (s := s) hN h0 (by omega)).1 b h
  exact (chP_least (s := s') hN (show 0 ≤ top' by omega) h2).2 b (fun i => by have := y i; omega) z (near_more x hs)
/-- More power on one heater. -/
theorem he_more {F : Nat → Nat → Int} {C : Nat → Int} {k i : Nat} {z : Int} : ∀ n : Nat, heT F (updI C k (C k + z)) i n = heT F C i n + (if k < n then F i k * z else 0)
  | 0 => by unfold heT; simp
  | n + 1 => by
    have h := he_more (F := F) (C := C) (k := k) (i := i) (z := z) n
    unfold heT
    rw [h]
    by_cases e : k = n
    · subst e
      rw [updI_at, if_neg (by omega), if_pos (by omega), Int.mul_add]; omega
    · rw [updI_ne _ _ (by omega)]
      by_cases e2 : k < n
      · rw [if_pos e2, if_pos (by omega)]; omega
      · rw [if_neg e2, if_neg (by omega)]; omega
theorem he_zero {F : Nat → Nat → Int} {i : Nat} : ∀ n : Nat, heT F (fun _ => 0) i n = 0
  | 0 => rfl
  | n + 1 => by unfold heT; rw [he_zero n]; simp
theorem tmod_zero {x : Int} (h : x % 1000000 = 0) : x.tmod 1000000 = 0 := by
  have := Int.mul_tdiv_add_tmod x 1000000
  have h2 : -1000000 < x.tmod 1000000 := by have := Int.lt_tmod_of_pos x (show (0 : Int) < 1000000 by decide); omega
  have h3 := Int.tmod_lt_of_pos x (show (0 : Int) < 1000000 by decide)
  omega
theorem ph_more {N : Nat} {F : Nat → Nat → Int} {B C : Nat → Int} {k i : Nat} (hk : k < N) : (phL N F B (updI C k (C k + 1)) i - phL N F B C i - F i k).tmod 1000000 = 0 := by
  apply tmod_zero
  unfold phL
  rw [he_more, if_pos hk]
  omega
theorem ph_base {N : Nat} {F : Nat → Nat → Int} {B : Nat → Int} {i : Nat} : (phL N F B (fun _ => 0) i - B i).tmod 1000000 = 0 := by
  apply tmod_zero
  unfold phL
  rw [he_zero]
  omega
end Go.Proofs.Ytldepffpafccpaa
