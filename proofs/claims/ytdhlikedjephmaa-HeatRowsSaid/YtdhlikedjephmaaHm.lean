import Derived.Test.YtdhlikedjephmaaHh
import Derived.Laws.IdiomCopy
namespace Heat
open Go Go.RowKit
/-- k of the numbers of F from s on, as cells. -/
def cutI (F : Nat → Int) : Nat → Nat → List Value
  | _, 0 => []
  | s, k + 1 => .int .i64 (F s) :: cutI F (s + 1) k
theorem cutI_len (F : Nat → Int) : ∀ (k s : Nat), (cutI F s k).length = k
  | 0, _ => rfl
  | k + 1, s => by simp [cutI, cutI_len F k (s + 1)]
theorem cutI_at (F : Nat → Int) : ∀ (k s j : Nat), j < k → (cutI F s k)[j]? = some (.int .i64 (F (s + j)))
  | 0, _, _, h => by omega
  | k + 1, s, 0, _ => rfl
  | k + 1, s, j + 1, h => by
    rw [cutI, List.getElem?_cons_succ, cutI_at F k (s + 1) j (by omega), show s + 1 + j = s + (j + 1) by omega]
theorem cutI_one (F : Nat → Int) : ∀ (k s : Nat), ∀ v ∈ cutI F s k, v.oneCell' = true
  | 0, _, v, h => by simp [cutI] at h
  | k + 1, s, v, h => by
    rw [cutI, List.mem_cons] at h
    rcases h with rfl | h
    · rfl
    · exact cutI_one F k (s + 1) v h
/-- The numbers of F from s on in the place of those of L from m on, k of them. -/
def putL (L : Nat → Int) (m k : Nat) (F : Nat → Int) (s j : Nat) : Int := if m ≤ j ∧ j < m + k then F (s + (j - m)) else L j
theorem putL_zero (L : Nat → Int) (m : Nat) (F : Nat → Int) (s : Nat) : putL L m 0 F s = L := by
  funext j
  unfold putL
  rw [if_neg (by omega)]
/-- The matrix without its first row and the column k, its first i rows done. -/
def minL (k i : Nat) (L : Nat → Int) (j : Nat) : Int := if j / 5 < i ∧ j % 5 < 4 then L ((j / 5 + 1) * 5 + (if j % 5 < k then j % 5 else j % 5 + 1)) else 0
theorem minL_next {k i : Nat} {L : Nat → Int} (hk : k < 5) : putL (putL (minL k i L) (i * 5) k L ((i + 1) * 5)) (i * 5 + k) (4 - k) L ((i + 1) * 5 + k + 1) = minL k (i + 1) L := by
  funext j
  unfold putL minL
  by_cases hr : j / 5 = i
  · by_cases hc : j % 5 < k
    · rw [if_neg (by omega), if_pos (by omega), if_pos (by omega), if_pos hc]
      congr 1; omega
    · by_cases h4 : j % 5 < 4
      · rw [if_pos (by omega), if_pos (by omega), if_neg hc]
        congr 1; omega
      · rw [if_neg (by omega), if_neg (by omega), if_neg (by omega), if_neg (by omega)]
  · by_cases h : j / 5 < i ∧ j % 5 < 4
    · rw [if_neg (by omega), if_neg (by omega), if_pos h, if_pos (show j / 5 < i + 1 ∧ j % 5 < 4 by omega)]
    · rw [if_neg (by omega), if_neg (by omega), if_neg h, if_neg (show ¬ (j / 5 < i + 1 ∧ j % 5 < 4) by omega)]
/-- The determinant as the program works it out, in words of 64 bits. -/
def detT (d : (Nat → Int) → Int) (L : Nat → Int) : Nat → Int
  | 0 => 0
  | k + 1 => wrap64 (detT d L k + wrap64 (wrap64 ((if k % 2 = 0 then 1 else -1) * L k) * d (minL k 5 L)))
end Heat
namespace Go.Proofs.Ytdhlikedjephmaa
open Go.RowKit Heat
theorem Sqw.putL {g : Nat} {n : Int} {F : Nat → Int} : ∀ (k : Nat) {w : World} {L : Nat → Int} {m s : Nat}, Sqw w g n L → m + k ≤ 25 → Sqw (w.setCells g (1 + m) (cutI F s k)) g n (putL L m k F s)
  | 0, w, L, m, s, h, _ => by rw [putL_zero]; exact h
  | k + 1, w, L, m, s, h, hm => by
    have h1 := Sqw.putL (F := F) k (s := s + 1) (m := m + 1) (h.store (m := m) (by omega) (F s)) (by omega)
    rw [show Heat.putL (updI L m (F s)) (m + 1) k F (s + 1) = Heat.putL L m (k + 1) F s by
      funext j
      unfold Heat.putL updI
      by_cases e : j = m
      · rw [if_neg (by omega), if_pos e, if_pos (by omega), show s + (j - m) = s by omega]
      · by_cases h2 : m + 1 ≤ j ∧ j < m + 1 + k
        · rw [if_pos h2, if_pos (by omega), show s + 1 + (j - (m + 1)) = s + (j - m) by omega]
        · rw [if_neg h2, if_neg e, if_neg (by omega)]] at h1
    rw [cutI, World.setCells]
    exact h1
theorem Sqw.others {g b o : Nat} {n : Int} {vs : List Value} {w : World} {L : Nat → Int} (h : Sqw w g n L) (hne : ¬ b = g) : Sqw (w.setCells b o vs) g n L := by
  induction vs generalizing w o with
  | nil => exact h
  | cons v r ih => rw [World.setCells]; exact ih (h.other hne)
theorem Sqw.setN {w : World} {g : Nat} {n : Int} {L : Nat → Int} (h : Sqw w g n L) (x : Int) : Sqw (w.setCell ⟨g, 0, none⟩ (.int .i64 x)) g x L := by
  obtain ⟨h0, h1, h2⟩ := h
  refine ⟨by go_cell, by go_cell, fun j hj => ?_⟩
  obtain ⟨a, b⟩ := h2 j hj
  have hne : ¬ 0 = 1 + j := by omega
  exact ⟨by go_cell, by go_cell⟩
theorem Sqw.congr {w : World} {g : Nat} {n : Int} {L M : Nat → Int} (h : Sqw w g n L) (e : ∀ j, j < 25 → L j = M j) : Sqw w g n M :=
  ⟨h.1, h.2.1, fun j hj => by rw [← e j hj]; exact h.2.2 j hj⟩
theorem sqL_cut (x : Int) (M : Nat → Int) : sqL x M = .int .i64 x :: cutI M 0 25 := by
  simp only [sqL, cutI, Nat.reduceAdd]
theorem Sqw.whole {w : World} {g : Nat} {n x : Int} {L M : Nat → Int} (h : Sqw w g n L) : Sqw (w.setCells g 0 (sqL x M)) g x M := by
  rw [sqL_cut, World.setCells, show (0 : Nat) + 1 = 1 + 0 from rfl]
  exact ((h.setN x).putL (F := M) (m := 0) (s := 0) 25 (by omega)).congr fun j hj => by unfold Heat.putL; rw [if_pos (by omega), show 0 + (j - 0) = j by omega]
/-- The builtin copy of k numbers from one square into another. -/
theorem copy_sq {w : World} {g b : Nat} {n n' : Int} {L F : Nat → Int} (hd : Sqw w g n L) (hs : Sqw w b n' F) {m s k dl dc sl sc : Nat} (hm : m + k ≤ 25) (hk : s + k ≤ 25) (hmin : k = Nat.min sl dl) :
    (Builtin.copy_ #[24, 24] 3 #[.slice (some ⟨g, 1 + m, none⟩) dl dc, .slice (some ⟨b, 1 + s, none⟩) sl sc]).run Try.prog w = .ok (goInt k) (w.setCells g (1 + m) (cutI F s k)) := by
  have hl := cutI_len F k s
  refine (run_copy_cells (P := Try.prog) w 24 24 3 3 g (1 + m) dl dc ⟨b, 1 + s, none⟩ sl sc (cutI F s k) Try.underlying24 (by kernel_rfl) (by rw [hl, hmin]) ?_ ?_ ?_ (cutI_one F k s)).trans (by rw [hl])
  · intro j v hj
    have hlt : j < k := by obtain ⟨h, _⟩ := List.getElem?_eq_some_iff.1 hj; rw [hl] at h; exact h
    rw [cutI_at F k s j hlt] at hj
    obtain rfl := Option.some.inj hj
    have := (hs.2.2 (s + j) (by omega)).1
    rw [← Nat.add_assoc] at this
    have ha : (⟨b, 1 + s, none⟩ : Addr).add j = ⟨b, 1 + s + j, none⟩ := by
      unfold Addr.add
      split
      · subst j; rfl
      · rfl
    rw [ha]
    exact this
  · intro j hj
    have := (hd.2.2 (m + j) (by rw [hl] at hj; omega)).1
    rw [← Nat.add_assoc] at this
    rw [this]; rfl
  · intro j hj
    have := (hd.2.2 (m + j) (by rw [hl] at hj; omega)).2
    rw [← Nat.add_assoc] at this
    exact this
end Go.Proofs.Ytdhlikedjephmaa
