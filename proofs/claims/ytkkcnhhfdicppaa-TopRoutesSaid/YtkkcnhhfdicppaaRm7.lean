import Derived.Test.YtkkcnhhfdicppaaBk7
namespace Lay
/-- The place of a cell in the order of the rim, or -1. -/
def riP (W H x y : Int) : Int := if y = 0 then x else if x = W - 1 then W - 1 + y else if y = H - 1 then W - 1 + (H - 1) + (W - 1) - x else if x = 0 then W - 1 + (H - 1) + (W - 1) + (H - 1) - y else -1
theorem riP_inj {W H x y p q : Int} (h0 : 0 ≤ x ∧ x < W ∧ 0 ≤ y ∧ y < H) (h1 : 0 ≤ p ∧ p < W ∧ 0 ≤ q ∧ q < H) (hr : 0 ≤ riP W H x y) (he : riP W H x y = riP W H p q) : x = p ∧ y = q := by
  unfold riP at hr he
  split at he <;> split at he <;> (try split at he) <;> (try split at he) <;> (try split at he) <;> (try split at he) <;> (try split at he) <;> (try split at he) <;> (try split at hr) <;> (try split at hr) <;> (try split at hr) <;> (try split at hr) <;> omega
theorem riP_low {W H x y : Int} (h0 : 0 ≤ x ∧ x < W ∧ 0 ≤ y ∧ y < H) : -1 ≤ riP W H x y ∧ riP W H x y ≤ 2 * W + 2 * H := by
  unfold riP
  split <;> (try split) <;> (try split) <;> (try split) <;> omega
/-- All of a list lie on the rim, each at its place. -/
def RI (W H : Int) (l : List (Int × Int)) : Prop := ∀ (i : Nat) (c : Int × Int), l[i]? = some c → (0 ≤ c.1 ∧ c.1 < W ∧ 0 ≤ c.2 ∧ c.2 < H) ∧ riP W H c.1 c.2 = i
def putL (l : List (Int × Int)) (x y : Int) : List (Int × Int) := if (x, y) ∈ l then l else l ++ [(x, y)]
theorem putL_old {l : List (Int × Int)} {x y : Int} (h : (x, y) ∈ l) : putL l x y = l := by unfold putL; rw [if_pos h]
theorem putL_new {l : List (Int × Int)} {x y : Int} (h : ¬ (x, y) ∈ l) : putL l x y = l ++ [(x, y)] := by unfold putL; rw [if_neg h]
theorem RI.nil {W H : Int} : RI W H [] := fun i c h => by simp at h
theorem RI.mem {W H : Int} {l : List (Int × Int)} (h : RI W H l) {x y : Int} (hon : 0 ≤ x ∧ x < W ∧ 0 ≤ y ∧ y < H) : (x, y) ∈ l ↔ 0 ≤ riP W H x y ∧ riP W H x y < l.length := by
  constructor
  · intro hm
    obtain ⟨i, hi⟩ := List.mem_iff_getElem?.1 hm
    have h1 := (h i _ hi).2
    have h2 := (List.getElem?_eq_some_iff.1 hi).1
    simp only at h1
    omega
  · rintro ⟨h0, h1⟩
    obtain ⟨i, hi⟩ : ∃ i : Nat, (i : Int) = riP W H x y := ⟨(riP W H x y).toNat, by omega⟩
    have hl : i < l.length := by omega
    obtain ⟨c, hc⟩ : ∃ c, l[i]? = some c := ⟨_, List.getElem?_eq_getElem hl⟩
    obtain ⟨k1, k2⟩ := h i c hc
    have k3 := riP_inj hon k1 h0 (by omega)
    have k4 : c = (x, y) := by rw [k3.1, k3.2]
    rw [← k4]
    exact List.mem_iff_getElem?.2 ⟨i, hc⟩
/-- One more cell: it is there, or it is the next one. -/
theorem RI.put {W H : Int} {l : List (Int × Int)} (h : RI W H l) {x y : Int} (hon : 0 ≤ x ∧ x < W ∧ 0 ≤ y ∧ y < H) (h0 : 0 ≤ riP W H x y) (h1 : riP W H x y ≤ l.length) :
    RI W H (putL l x y) ∧ ((putL l x y).length : Int) = max (l.length : Int) (riP W H x y + 1) := by
  by_cases hm : (x, y) ∈ l
  · rw [putL_old hm]
    have := (h.mem hon).1 hm
    exact ⟨h, by omega⟩
  · have h2 : riP W H x y = l.length := by
      have h3 : ¬ (0 ≤ riP W H x y ∧ riP W H x y < l.length) := fun k => hm ((h.mem hon).2 k)
      omega
    rw [putL_new hm]
    refine ⟨fun i c hc => ?_, by rw [List.length_append]; simp; omega⟩
    by_cases hi : i < l.length
    · rw [List.getElem?_append_left hi] at hc
      exact h i c hc
    · rw [List.getElem?_append_right (by omega)] at hc
      have hi' : i - l.length = 0 := by
        have := (List.getElem?_eq_some_iff.1 hc).1
        simp at this
        omega
      rw [hi'] at hc
      simp at hc
      subst hc
      exact ⟨hon, by simp only; omega⟩
theorem blkN_mem {l : List (Int × Int)} {x y : Int} : blkN (fun j => (l.getD j (0, 0)).1) (fun j => (l.getD j (0, 0)).2) l.length x y = decide ((x, y) ∈ l) := by
  rw [Bool.eq_iff_iff, decide_eq_true_eq]
  constructor
  · intro h
    have key : ∀ n, blkN (fun j => (l.getD j (0, 0)).1) (fun j => (l.getD j (0, 0)).2) n x y = true → ∃ i, i < n ∧ x = (l.getD i (0, 0)).1 ∧ y = (l.getD i (0, 0)).2 := by
      intro n
      induction n with
      | zero => intro h; simp [blkN] at h
      | succ n ih =>
        intro h
        simp only [blkN, Bool.or_eq_true, decide_eq_true_eq] at h
        rcases h with h | h
        · obtain ⟨i, hi, h'⟩ := ih h
          exact ⟨i, by omega, h'⟩
        · exact ⟨n, by omega, h⟩
    obtain ⟨i, hi, h1, h2⟩ := key _ h
    rw [List.getD_eq_getElem?_getD, List.getElem?_eq_getElem hi] at h1 h2
    simp only [Option.getD_some] at h1 h2
    have : (x, y) = l[i] := by rw [h1, h2]
    rw [this]
    exact List.getElem_mem hi
  · intro h
    obtain ⟨i, hi⟩ := List.mem_iff_getElem?.1 h
    have hl := (List.getElem?_eq_some_iff.1 hi).1
    refine blkN_stop (k := i) ?_ _ hl
    rw [List.getD_eq_getElem?_getD, hi]
    exact ⟨rfl, rfl⟩
/-- How many cells of the rim are listed behind the four sides. -/
def l2 (W y : Int) : Int := if y = 0 then W else W - 1 + y
def l3 (W H x : Int) : Int := if H = 1 then W else if x = W - 1 then W + H - 1 else W + H - 1 + (W - 2 - x)
def l4 (W H y : Int) : Int := if W = 1 ∨ H = 1 ∨ y = H - 1 then l3 W H (-1) else if y = -1 then l3 W H (-1) + (H - 2) else l3 W H (-1) + (H - 2 - y)
theorem rim1 {W H : Int} {l : List (Int × Int)} (hl : RI W H l) {x : Int} (h0 : 0 ≤ x) (h1 : x < W) (hH : 1 ≤ H) (hn : (l.length : Int) = x) : RI W H (putL l x 0) ∧ ((putL l x 0).length : Int) = x + 1 := by
  have hr : riP W H x 0 = x := by unfold riP; rw [if_pos rfl]
  obtain ⟨a, b⟩ := hl.put (x := x) (y := 0) ⟨h0, h1, by omega, by omega⟩ (by omega) (by omega)
  exact ⟨a, by omega⟩
theorem rim2 {W H : Int} {l : List (Int × Int)} (hl : RI W H l) {y : Int} (h0 : 0 ≤ y) (h1 : y < H) (hW : 1 ≤ W) (hn : (l.length : Int) = l2 W y) : RI W H (putL l (W - 1) y) ∧ ((putL l (W - 1) y).length : Int) = l2 W (y + 1) := by
  have hr : riP W H (W - 1) y = W - 1 + y := by unfold riP; split <;> (try rw [if_pos rfl]) <;> omega
  unfold l2 at *
  obtain ⟨a, b⟩ := hl.put (x := W - 1) (y := y) ⟨by omega, by omega, h0, h1⟩ (by omega) (by split at hn <;> omega)
  refine ⟨a, ?_⟩
  split at hn <;> split <;> omega
theorem rim3 {W H : Int} {l : List (Int × Int)} (hl : RI W H l) {x : Int} (h0 : 0 ≤ x) (h1 : x < W) (hH : 1 ≤ H) (hn : (l.length : Int) = l3 W H x) : RI W H (putL l x (H - 1)) ∧ ((putL l x (H - 1)).length : Int) = l3 W H (x - 1) := by
  have hr : riP W H x (H - 1) = if H = 1 then x else W - 1 + (H - 1) + (W - 1) - x := by
    unfold riP
    by_cases e : H = 1
    · rw [if_pos e, if_pos (by omega)]
    · rw [if_neg e, if_neg (by omega)]
      split
      · omega
      · rw [if_pos rfl]
  unfold l3 at *
  obtain ⟨a, b⟩ := hl.put (x := x) (y := H - 1) ⟨h0, h1, by omega, by omega⟩ (by split at hr <;> omega) (by split at hr <;> split at hn <;> (try split at hn) <;> omega)
  refine ⟨a, ?_⟩
  split at hr <;> split at hn <;> (try split at hn) <;> (try split) <;> (try split) <;> omega
theorem rim4 {W H : Int} {l : List (Int × Int)} (hl : RI W H l) {y : Int} (h0 : 0 ≤ y) (h1 : y < H) (hW : 1 ≤ W) (hn : (l.length : Int) = l4 W H y) : RI W H (putL l 0 y) ∧ ((putL l 0 y).length : Int) = l4 W H (y - 1) := by
  have hr : riP W H 0 y = if y = 0 then 0 else if W = 1 then y else W - 1 + (H - 1) + (W - 1) + (H - 1) - y := by
    unfold riP
    by_cases e : y = 0
    · rw [if_pos e, if_pos e]
    · rw [if_neg e, if_neg e]
      by_cases e1 : W = 1
      · rw [if_pos e1, if_pos (by omega)]; omega
      · rw [if_neg e1, if_neg (by omega)]
        split
        · omega
        · rw [if_pos rfl]
  unfold l4 l3 at *
  have e1 : ¬ (-1 : Int) = W - 1 := by omega
  simp only [if_neg e1] at *
  obtain ⟨a, b⟩ := hl.put (x := 0) (y := y) ⟨by omega, by omega, h0, h1⟩ (by split at hr <;> (try split at hr) <;> omega) (by split at hr <;> (try split at hr) <;> split at hn <;> (try split at hn) <;> (try split at hn) <;> omega)
  refine ⟨a, ?_⟩
  rw [b, hn, hr]
  by_cases a1 : W = 1 <;> by_cases a2 : H = 1 <;> by_cases a3 : y = 0 <;> by_cases a4 : y = H - 1 <;> simp only [a1, a2, a3, a4, true_or, or_true, if_true, false_or, if_false, or_false] <;> (try split) <;> (try split) <;> (try split) <;> (try split) <;> (try split) <;> (try split) <;> omega
theorem rim_all {W H x y : Int} (hon : 0 ≤ x ∧ x < W ∧ 0 ≤ y ∧ y < H) : riP W H x y < l4 W H (-1) := by
  unfold l4 l3 riP
  split <;> (try split) <;> (try split) <;> (try split) <;> (try split) <;> (try split) <;> (try split) <;> (try split) <;> omega
/-- The cells of the rim, each once, in order. -/
def Rim (W H : Int) (l : List (Int × Int)) : Prop := RI W H l ∧ ∀ x y, 0 ≤ x ∧ x < W ∧ 0 ≤ y ∧ y < H → riP W H x y < l.length
end Lay
