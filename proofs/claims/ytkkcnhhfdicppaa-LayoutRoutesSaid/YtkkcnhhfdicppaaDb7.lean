import Derived.Test.YtkkcnhhfdicppaaDa7
import Derived.Test.YtkkcnhhfdicppaaBk7
namespace Lay
theorem bd_nil (B o : Int) : bd B (-1) o = 0 := by unfold bd; rw [if_neg (fun h => h.1 rfl)]
theorem rt_up {M B p q : Int} {F : Int → Int → Int → Option Int} {x y i : Int} {r : List (Int × Int) × Int} {n : Nat} (h : rt F M B p q n x y i = some r) : ∀ k, rt F M B p q (n + k) x y i = some r
  | 0 => h
  | k + 1 => rt_more _ _ _ _ _ (rt_up h k)
theorem rt_uniq {M B p q : Int} {F : Int → Int → Int → Option Int} {x y i : Int} {r s : List (Int × Int) × Int} {n m : Nat} (h : rt F M B p q n x y i = some r) (g : rt F M B p q m x y i = some s) : r = s := by
  have h1 := rt_up h m
  have h2 := rt_up g n
  rw [Nat.add_comm m n, h1] at h2
  exact Option.some.inj h2
/-- All that the law asks of a cheapest route. -/
theorem cheap_math {Wn Hn : Nat} {K : Int → Int → Bool} {M B : Int} {X Y : Nat → Int} {l : Nat} {F : Int → Int → Int → Option Int} (hW : Wn ≤ 30) (hH : Hn ≤ 30) (hM : 1 ≤ M ∧ M ≤ 1000) (hB : 0 ≤ B ∧ B ≤ 1000)
    (ho : opA (Wn : Int) (Hn : Int) K X Y (l + 1) = true) (hs : ∀ k, k < l → wyN X Y k ≠ -1) (hF : Costs (Wn : Int) (Hn : Int) K M B (X l) (Y l) F) :
    ∃ (nn L : Nat) (r : List (Int × Int)) (c : Int) (X' Y' : Nat → Int), rt F M B (X l) (Y l) nn (X 0) (Y 0) (-1) = some (r, c) ∧ (X 0, Y 0) :: r = prL X' Y' (L + 1) ∧ r.length = L ∧ L + 1 ≤ 900 ∧ chE (Wn : Int) (Hn : Int) K X' Y' (L + 1) = 0 ∧
      (X' 0 = X 0 ∧ Y' 0 = Y 0 ∧ X' L = X l ∧ Y' L = Y l) ∧ coN M B X' Y' L = c ∧ c ≤ coN M B X Y l ∧ (0 ≤ c ∧ c ≤ 9000000) ∧ farS F B (X l) (Y l) (X 0) (Y 0) = c ∧ ∀ G, Costs (Wn : Int) (Hn : Int) K M B (X 0) (Y 0) G → farS G B (X 0) (Y 0) (X l) (Y l) = c := by
  have hop := opA_iff.1 ho
  by_cases he : X 0 = X l ∧ Y 0 = Y l
  · refine ⟨0, 0, [], 0, fun _ => X 0, fun _ => Y 0, ?_, rfl, rfl, by omega, ?_, ⟨rfl, rfl, he.1, he.2⟩, rfl, (coN_le (by omega) (by omega) l).1, by omega, ?_, fun G _ => ?_⟩
    · unfold rt; rw [if_pos he]
    · refine chE_ok.2 ⟨paB_iff.2 ⟨by omega, fun i j hi hj => by omega, fun k hk => by omega⟩, opA_iff.2 fun k hk => hop 0 (by omega)⟩
    · unfold farS; rw [if_pos he]
    · unfold farS; rw [if_pos ⟨he.1.symm, he.2.symm⟩]
  have hl : 1 ≤ l := by
    rcases Nat.eq_zero_or_pos l with h | h
    · subst h; exact absurd ⟨rfl, rfl⟩ he
    · exact h
  obtain ⟨v, hv, hv2⟩ := path_walk (op := opB (Wn : Int) (Hn : Int) K) (M := M) (B := B) (X := X) (Y := Y) (l := l) (fun k hk => hop k (by omega)) hs (l - 1) (by omega)
  rw [show l - 1 - (l - 1) = 0 by omega] at hv hv2
  have hv3 : v = coN M B X Y l := by
    have h1 : coN M B X Y 0 = 0 := rfl
    have h2 : bd B (pvN X Y 0) (wyN X Y 0) = 0 := bd_nil _ _
    rw [h1, h2] at hv2
    omega
  have hfin := hF.1
  obtain ⟨u, hu⟩ := (hfin _ _ _).2 v hv
  have huv := ((hfin _ _ _).1 u hu).2 v hv
  obtain ⟨d0, d4, _⟩ := hv.dir
  have hc0 := chp_some (B := B) (i := -1) d0 d4 hu
  obtain ⟨hd, hf, hm⟩ := chp_is hc0
  rw [bd_nil, Int.sub_zero] at hf
  have hcu := hm _ _ d0 d4 hu
  rw [bd_nil] at hcu
  have hlast := hop l (by omega)
  obtain ⟨L, hL1, hL2, hrep, hst, hopL, hco, hrt⟩ := sq_path hfin hM.1 hB.1 he hc0 hlast
  have hwk := ((hfin _ _ _).1 _ hf).1
  have hlow := hwk.low (by omega) hB.1
  have h8 := hF.2 _ _ _ _ hf
  have hsh : L + 1 ≤ Hn * Wn := path_short hrep (fun k hk => (opB_iff.1 (hopL k hk)).1)
  have h900 : Hn * Wn ≤ 900 := Nat.le_trans (Nat.mul_le_mul hH hW) (by decide)
  refine ⟨L, L, _, _, sqX F B (X 0) (Y 0), sqY F B (X 0) (Y 0), hrt, ?_, by simp, by omega, ?_, ⟨rfl, rfl, hL2.1, hL2.2⟩, hco, by omega, by omega, ?_, fun G hG => ?_⟩
  · unfold prL
    rw [List.range_succ_eq_map, List.map_cons, List.map_map]
    rfl
  · exact chE_ok.2 ⟨paB_iff.2 ⟨by omega, hrep, fun k hk => hst k (by omega)⟩, opA_iff.2 hopL⟩
  · unfold farS
    rw [if_neg he, if_neg hc0, hf]
    rfl
  · obtain ⟨e, hwe⟩ := hwk.rev hlast
    obtain ⟨u1, hu1⟩ := (hG.1 _ _ _).2 _ hwe
    have g1 := ((hG.1 _ _ _).1 u1 hu1).2 _ hwe
    obtain ⟨e0, e4, _⟩ := hwe.dir
    have hg0 := chp_some (B := B) (i := -1) e0 e4 hu1
    obtain ⟨_, hgf, hgm⟩ := chp_is hg0
    rw [bd_nil, Int.sub_zero] at hgf
    have g2 := hgm _ _ e0 e4 hu1
    rw [bd_nil] at g2
    obtain ⟨e', hwr⟩ := ((hG.1 _ _ _).1 _ hgf).1.rev (hop 0 (by omega))
    obtain ⟨u2, hu2⟩ := (hfin _ _ _).2 _ hwr
    have g3 := ((hfin _ _ _).1 u2 hu2).2 _ hwr
    obtain ⟨f0, f4, _⟩ := hwr.dir
    have g4 := hm _ _ f0 f4 hu2
    rw [bd_nil] at g4
    unfold farS
    rw [if_neg (fun h => he ⟨h.1.symm, h.2.symm⟩), if_neg hg0, hgf]
    show (chp G B (X l) (Y l) (-1)).2 = _
    omega
end Lay
