import Derived.Test.YtkkcnhhfdicppaaPa7
import Derived.Test.YtkkcnhhfdicppaaBk7
import Derived.Shelf.Spec.SlicesInsertGrow
namespace Lay
theorem wyS_ne {x y p q : Int} : wyS x y p q ≠ -1 ↔ (y = q ∧ (x + 1 = p ∨ p + 1 = x)) ∨ (x = p ∧ (y + 1 = q ∨ q + 1 = y)) := by
  unfold wyS
  by_cases h0 : y = q ∧ x + 1 = p
  · rw [if_pos h0]; simp; omega
  rw [if_neg h0]
  by_cases h1 : x = p ∧ y + 1 = q
  · rw [if_pos h1]; simp; omega
  rw [if_neg h1]
  by_cases h2 : y = q ∧ p + 1 = x
  · rw [if_pos h2]; simp; omega
  rw [if_neg h2]
  by_cases h3 : x = p ∧ q + 1 = y
  · rw [if_pos h3]; simp; omega
  rw [if_neg h3]
  simp; omega
/-- Two more behind place i. -/
def ins2 (X : Nat → Int) (i : Nat) (a c : Int) (k : Nat) : Int := if k ≤ i then X k else if k = i + 1 then a else if k = i + 2 then c else X (k - 2)
theorem ins2_0 {X : Nat → Int} {i k : Nat} {a c : Int} (h : k ≤ i) : ins2 X i a c k = X k := by unfold ins2; rw [if_pos h]
theorem ins2_1 {X : Nat → Int} {i : Nat} {a c : Int} : ins2 X i a c (i + 1) = a := by unfold ins2; rw [if_neg (by omega), if_pos rfl]
theorem ins2_2 {X : Nat → Int} {i : Nat} {a c : Int} : ins2 X i a c (i + 2) = c := by unfold ins2; rw [if_neg (by omega), if_neg (by omega), if_pos rfl]
theorem ins2_3 {X : Nat → Int} {i k : Nat} {a c : Int} (h : i < k) : ins2 X i a c (k + 2) = X k := by
  unfold ins2; rw [if_neg (by omega), if_neg (by omega), if_neg (by omega)]; rfl
theorem ins2_cases {n i k : Nat} (hk : k < n + 2) (hi : i < n) : (k ≤ i) ∨ k = i + 1 ∨ k = i + 2 ∨ ∃ j, k = j + 2 ∧ i < j ∧ j < n := by
  by_cases h1 : k ≤ i
  · exact Or.inl h1
  by_cases h2 : k = i + 1
  · exact Or.inr (Or.inl h2)
  by_cases h3 : k = i + 2
  · exact Or.inr (Or.inr (Or.inl h3))
  · exact Or.inr (Or.inr (Or.inr ⟨k - 2, by omega, by omega, by omega⟩))
theorem blkN_ins {X Y : Nat → Int} {n i : Nat} {a b c e p q : Int} (hi : i < n) : blkN (ins2 X i a c) (ins2 Y i b e) (n + 2) p q = ((blkN X Y n p q || decide (p = a ∧ q = b)) || decide (p = c ∧ q = e)) := by
  rw [Bool.eq_iff_iff, Bool.or_eq_true, Bool.or_eq_true, blkN_iff, blkN_iff, decide_eq_true_eq, decide_eq_true_eq]
  constructor
  · rintro ⟨k, hk, h1, h2⟩
    rcases ins2_cases hk hi with h | h | h | ⟨j, h, hj, hn⟩
    · rw [ins2_0 h] at h1 h2; exact Or.inl (Or.inl ⟨k, by omega, h1, h2⟩)
    · subst h; rw [ins2_1] at h1 h2; exact Or.inl (Or.inr ⟨h1, h2⟩)
    · subst h; rw [ins2_2] at h1 h2; exact Or.inr ⟨h1, h2⟩
    · subst h; rw [ins2_3 hj] at h1 h2; exact Or.inl (Or.inl ⟨j, hn, h1, h2⟩)
  · rintro ((⟨k, hk, h1, h2⟩ | ⟨h1, h2⟩) | ⟨h1, h2⟩)
    · by_cases hki : k ≤ i
      · exact ⟨k, by omega, by rw [ins2_0 hki]; exact h1, by rw [ins2_0 hki]; exact h2⟩
      · exact ⟨k + 2, by omega, by rw [ins2_3 (by omega)]; exact h1, by rw [ins2_3 (by omega)]; exact h2⟩
    · exact ⟨i + 1, by omega, by rw [ins2_1]; exact h1, by rw [ins2_1]; exact h2⟩
    · exact ⟨i + 2, by omega, by rw [ins2_2]; exact h1, by rw [ins2_2]; exact h2⟩
theorem opA_ins {W H : Int} {K : Int → Int → Bool} {X Y : Nat → Int} {n i : Nat} {a b c e : Int} (h : opA W H K X Y n = true) (hi : i < n) (h1 : opB W H K a b = true) (h2 : opB W H K c e = true) : opA W H K (ins2 X i a c) (ins2 Y i b e) (n + 2) = true := by
  rw [opA_iff] at h ⊢
  intro k hk
  rcases ins2_cases hk hi with h' | h' | h' | ⟨j, h', hj, hn⟩
  · rw [ins2_0 h', ins2_0 h']; exact h k (by omega)
  · subst h'; rw [ins2_1, ins2_1]; exact h1
  · subst h'; rw [ins2_2, ins2_2]; exact h2
  · subst h'; rw [ins2_3 hj, ins2_3 hj]; exact h j hn
theorem rep_ins {X Y : Nat → Int} {n i : Nat} {a b c e : Int} (h : ∀ i j, i < j → j < n → ¬ (X j = X i ∧ Y j = Y i)) (hi : i < n) (h1 : ∀ k, k < n → ¬ (a = X k ∧ b = Y k)) (h2 : ∀ k, k < n → ¬ (c = X k ∧ e = Y k)) (h3 : ¬ (c = a ∧ e = b)) :
    ∀ k j, k < j → j < n + 2 → ¬ (ins2 X i a c j = ins2 X i a c k ∧ ins2 Y i b e j = ins2 Y i b e k) := by
  intro k j hkj hj
  rcases ins2_cases hj hi with e2 | e2 | e2 | ⟨j', e2, hj2, hn2⟩
  · rw [ins2_0 e2, ins2_0 e2, ins2_0 (by omega), ins2_0 (by omega)]
    exact h k j hkj (by omega)
  · subst e2
    rw [ins2_1, ins2_1, ins2_0 (by omega), ins2_0 (by omega)]
    exact h1 k (by omega)
  · subst e2
    rw [ins2_2, ins2_2]
    by_cases hk1 : k = i + 1
    · subst hk1; rw [ins2_1, ins2_1]; exact h3
    · rw [ins2_0 (by omega), ins2_0 (by omega)]
      exact h2 k (by omega)
  · subst e2
    rw [ins2_3 hj2, ins2_3 hj2]
    rcases ins2_cases (n := n) (k := k) (by omega) hi with e1 | e1 | e1 | ⟨k', e1, hk1, hn1⟩
    · rw [ins2_0 e1, ins2_0 e1]; exact h k j' (by omega) hn2
    · subst e1; rw [ins2_1, ins2_1]; exact fun q => h1 j' hn2 ⟨q.1.symm, q.2.symm⟩
    · subst e1; rw [ins2_2, ins2_2]; exact fun q => h2 j' hn2 ⟨q.1.symm, q.2.symm⟩
    · subst e1; rw [ins2_3 hk1, ins2_3 hk1]; exact h k' j' (by omega) hn2
theorem st_ins {X Y : Nat → Int} {n i : Nat} {a b c e : Int} (h : ∀ k, k < n - 1 → wyN X Y k ≠ -1) (hi : i + 1 < n) (h1 : wyS (X i) (Y i) a b ≠ -1) (h2 : wyS a b c e ≠ -1) (h3 : wyS c e (X (i + 1)) (Y (i + 1)) ≠ -1) :
    ∀ k, k < n + 2 - 1 → wyN (ins2 X i a c) (ins2 Y i b e) k ≠ -1 := by
  intro k hk
  unfold wyN
  by_cases e1 : k < i
  · rw [ins2_0 (by omega), ins2_0 (by omega), ins2_0 (by omega), ins2_0 (by omega)]; exact h k (by omega)
  by_cases e2 : k = i
  · subst e2; rw [ins2_0 (Nat.le_refl _), ins2_0 (Nat.le_refl _), ins2_1, ins2_1]; exact h1
  by_cases e3 : k = i + 1
  · subst e3; rw [ins2_1, ins2_1, ins2_2, ins2_2]; exact h2
  by_cases e4 : k = i + 2
  · subst e4
    rw [ins2_2, ins2_2, show i + 2 + 1 = (i + 1) + 2 by omega, ins2_3 (by omega), ins2_3 (by omega)]; exact h3
  · obtain ⟨j, rfl⟩ : ∃ j, k = j + 2 := ⟨k - 2, by omega⟩
    rw [ins2_3 (by omega), ins2_3 (by omega), show j + 2 + 1 = (j + 1) + 2 by omega, ins2_3 (by omega), ins2_3 (by omega)]
    exact h j (by omega)
/-- Room beside a step: the two cells that are put between. -/
theorem side_steps {x y p q d s o : Int} (hd : wyS x y p q = d) (hd0 : d ≠ -1) (hs : s = 1 ∨ s = 3) (ho : o = (d + s) % 4) :
    wyS x y (nx x o) (ny y o) ≠ -1 ∧ wyS (nx x o) (ny y o) (nx p o) (ny q o) ≠ -1 ∧ wyS (nx p o) (ny q o) p q ≠ -1 ∧ ¬ (nx p o = nx x o ∧ ny q o = ny y o) := by
  have hr := wyS_range x y p q
  rw [hd] at hr
  obtain ⟨h1, h2⟩ := (wyS_iff (by omega) (by omega)).1 hd
  have hc : d = 0 ∨ d = 1 ∨ d = 2 ∨ d = 3 := by omega
  simp only [wyS_ne]
  rcases hs with rfl | rfl <;> rcases hc with rfl | rfl | rfl | rfl <;> simp at ho <;> subst ho <;> simp [nx, ny] at h1 h2 ⊢ <;> omega
/-- A path with two cells more. -/
def Pth (W H : Int) (K : Int → Int → Bool) (X Y : Nat → Int) (n : Nat) : Prop := (∀ i j, i < j → j < n → ¬ (X j = X i ∧ Y j = Y i)) ∧ (∀ k, k < n - 1 → wyN X Y k ≠ -1) ∧ opA W H K X Y n = true
theorem Pth.ins {W H : Int} {K : Int → Int → Bool} {X Y : Nat → Int} {n i : Nat} {s o : Int} (h : Pth W H K X Y n) (hi : i + 1 < n) (hs : s = 1 ∨ s = 3) (ho : o = (wyN X Y i + s) % 4)
    (b1 : opB W H K (nx (X i) o) (ny (Y i) o) = true) (b2 : opB W H K (nx (X (i + 1)) o) (ny (Y (i + 1)) o) = true) (u1 : blkN X Y n (nx (X i) o) (ny (Y i) o) = false) (u2 : blkN X Y n (nx (X (i + 1)) o) (ny (Y (i + 1)) o) = false) :
    Pth W H K (ins2 X i (nx (X i) o) (nx (X (i + 1)) o)) (ins2 Y i (ny (Y i) o) (ny (Y (i + 1)) o)) (n + 2) := by
  obtain ⟨h1, h2, h3⟩ := h
  obtain ⟨s1, s2, s3, s4⟩ := side_steps (x := X i) (y := Y i) (p := X (i + 1)) (q := Y (i + 1)) rfl (h2 i (by omega)) hs ho
  have n1 : ∀ k, k < n → ¬ (nx (X i) o = X k ∧ ny (Y i) o = Y k) := fun k hk q => by rw [blkN_iff.2 ⟨k, hk, q⟩] at u1; cases u1
  have n2 : ∀ k, k < n → ¬ (nx (X (i + 1)) o = X k ∧ ny (Y (i + 1)) o = Y k) := fun k hk q => by rw [blkN_iff.2 ⟨k, hk, q⟩] at u2; cases u2
  exact ⟨rep_ins h1 (by omega) n1 n2 s4, st_ins h2 hi s1 s2 s3, opA_ins h3 (by omega) b1 b2⟩
theorem prL_ins {X Y : Nat → Int} {n i : Nat} {a b c e : Int} (hi : i < n) : prL (ins2 X i a c) (ins2 Y i b e) (n + 2) = (prL X Y n).take (i + 1) ++ ([(a, b), (c, e)] ++ (prL X Y n).drop (i + 1)) := by
  refine List.ext_getElem? fun k => ?_
  unfold prL
  by_cases hk : k < n + 2
  · rw [List.getElem?_map, List.getElem?_range hk]
    rcases ins2_cases hk hi with h | h | h | ⟨j, h, hj, hn⟩
    · rw [List.getElem?_append_left (by simp; omega), List.getElem?_take_of_lt (by omega), List.getElem?_map, List.getElem?_range (by omega)]
      simp [ins2_0 h]
    · subst h
      rw [List.getElem?_append_right (by simp; omega)]
      simp [ins2_1, Nat.min_eq_left (show i + 1 ≤ n by omega)]
    · subst h
      rw [List.getElem?_append_right (by simp; omega)]
      simp [ins2_2, Nat.min_eq_left (show i + 1 ≤ n by omega), show i + 2 - (i + 1) = 1 by omega]
    · subst h
      rw [List.getElem?_append_right (by simp; omega), List.getElem?_append_right (by simp; omega), List.getElem?_drop]
      simp only [List.length_take, List.length_map, List.length_range, List.length_cons, List.length_nil, Nat.min_eq_left (show i + 1 ≤ n by omega)]
      rw [show i + 1 + (j + 2 - (i + 1) - (0 + 1 + 1)) = j by omega, List.getElem?_map, List.getElem?_range hn]
      simp [ins2_3 hj]
  · rw [List.getElem?_eq_none (by simp; omega), List.getElem?_eq_none (by simp; omega)]
end Lay

namespace Go.Proofs.Ytkkcnhhfdicppaa
open Go.RowKit Lay Go.Lib
theorem putAt'_size : ∀ (vs : List Value) (o : Nat) (cs : Array Value), (putAt' cs o vs).size = cs.size
  | [], _, _ => rfl
  | v :: r, o, cs => by unfold putAt'; rw [putAt'_size r]; simp
theorem heap_setCells_other {g k : Nat} : ∀ (vs : List Value) (o : Nat) (w : World), k ≠ g → (w.setCells g o vs).heap[k]? = w.heap[k]?
  | [], _, _, _ => rfl
  | v :: r, o, w, h => (heap_setCells_other r (o + 1) (w.setCell ⟨g, o, none⟩ v) h).trans (Below.heap_setCell _ _ _ _ h)
/-- copy of elements of two cells: all is read before anything is written. -/
theorem run_copy_xy {P : Program} (w : World) (dT sT ty elem : TypeId) (b o dLen dCap : Nat) (a : Addr) (sLen sCap : Nat) (cs : List Value)
    (hu : P.underlying dT = some (.slice elem)) (hs : (P.info? elem).map (·.size) = some 2) (hn : cs.length = Nat.min sLen dLen * 2)
    (hsrc : ∀ j v, cs[j]? = some v → w.cell? (a.add j) = some v) (hc : ∀ j, j < cs.length → (w.cell? ⟨b, o + j, none⟩).isSome = true) (hf : ∀ j, j < cs.length → w.frozen? ⟨b, o + j, none⟩ = false) (h1 : ∀ v ∈ cs, v.oneCell' = true) :
    (Builtin.copy_ #[dT, sT] ty #[.slice (some ⟨b, o, none⟩) dLen dCap, .slice (some a) sLen sCap]).run P w = .ok (goInt (Nat.min sLen dLen)) (w.setCells b o cs) := by
  have hl := run_loadCells_list (P := P) w a cs hsrc
  have hst := run_storeCells_cells (P := P) b o cs 0 w (by simpa using hc) (by simpa using hf) h1
  cases hq : P.info? elem with
  | none => simp [hq] at hs
  | some i =>
    have hi : i.size = 2 := by simpa [hq] using hs
    simp [Builtin.copy_, run_underlying hu, Builtin.lenOf, Builtin.firstCells, sizeOf, typeInfo, hq, hi, ← hn, hl, hst]
theorem xyC_one (l : List (Int × Int)) : ∀ v ∈ xyC l, v.oneCell' = true := by
  intro v hv
  unfold xyC at hv
  obtain ⟨c, _, h⟩ := List.mem_flatMap.1 hv
  simp only [List.mem_cons, List.not_mem_nil, or_false] at h
  rcases h with rfl | rfl <;> rfl
set_option maxRecDepth 100000 in
set_option maxHeartbeats 8000000 in
theorem insert_room (g n i cap vb vc : Nat) (cur : Array Value) (ys : List Value) (y0 y1 y2 y3 : Value) (w : World) (hi : i < n) (hr : n + 2 ≤ cap) (hcap : cap ≤ 9223372036854775807)
    (hg : w.heap[g]? = some (.cells cur 26 (0, 0))) (hcs : cur.size = cap * 2) (hys : ys = (cur.toList.take (n * 2)).drop (i * 2)) (h1 : ∀ v ∈ ys, v.oneCell' = true)
    (hv : w.heap[vb]? = some (.cells #[y0, y1, y2, y3] 26 (0, 0))) (hne : vb ≠ g) (h1v : ∀ v ∈ [y0, y1, y2, y3], v.oneCell' = true) :
    Calls Try.prog 59 #[.slice (some ⟨g, 0, none⟩) n cap, .int .i64 (i : Int), .slice (some ⟨vb, 0, none⟩) 2 vc] w fun e w' => e = .returned (.slice (some ⟨g, 0, none⟩) (n + 2) cap) ∧ w' = (w.drew.setCells g ((i + 2) * 2) ys).setCells g (i * 2) [y0, y1, y2, y3] := by
  have hsz : (Try.prog.info? 26 ).map (·.size) = some 2 := by kernel_rfl
  have hov : ∀ o lb cb, (callFunc 73 #[.slice (some ⟨vb, 0, none⟩) 2 vc, .slice (some ⟨g, o, none⟩) lb cb]).run Try.prog w = .ok (.value (.bool false)) w := fun o lb cb => by
    rw [run_callFunc_extern Try.func73 (by kernel_rfl) (by kernel_rfl) (by kernel_rfl) (e := Extern.SlicesOverlaps.overlaps #[ 22 , 22 ] #[4]) (by kernel_rfl),
      Lib.run_overlaps_apart w 22 4 26 Try.underlying22 2 Try.sizeOf26 ⟨vb, 0, none⟩ ⟨g, o, none⟩ 2 vc lb cb hne 26 26 4 (cap * 2) (by unfold World.shape?; simp [hv]) (by unfold World.shape?; simp [hg, hcs]) (by omega) (by unfold World.frozen?; simp [hv]) (by unfold World.frozen?; simp [hv])]
    rfl
  have hyl : ys.length = (n - i) * 2 := by rw [hys, List.length_drop, List.length_take, Array.length_toList, hcs, Nat.min_eq_left (by omega)]; omega
  have hcell : ∀ k, k < cap * 2 → (w.cell? ⟨g, k, none⟩).isSome = true := fun k hk => by
    rw [cell_of_row w g k cur _ (0, 0) hg, Array.getElem?_eq_getElem (by omega)]; rfl
  have hfz : ∀ k, w.frozen? ⟨g, k, none⟩ = false := fun k => by unfold World.frozen?; simp [hg]
  have hyc : ∀ j v, ys[j]? = some v → w.cell? ⟨g, i * 2 + j, none⟩ = some v := fun j v h => by
    rw [hys, List.getElem?_drop] at h
    have hj : i * 2 + j < n * 2 := by
      rcases Nat.lt_or_ge (i * 2 + j) (n * 2) with h' | h'
      · exact h'
      · rw [List.getElem?_eq_none (by rw [List.length_take]; omega)] at h; cases h
    rw [cell_of_row w g _ cur _ (0, 0) hg]
    rw [List.getElem?_take_of_lt hj, Array.getElem?_toList] at h
    exact h
  have hcp1 : ∀ ty dc sc, (Builtin.copy_ #[ 22 , 22 ] ty #[.slice (some ⟨g, (i + 2) * 2, none⟩) (n + 2 - (i + 2)) dc, .slice (some ⟨g, i * 2, none⟩) (n + 2 - i) sc]).run Try.prog w.drew = .ok (goInt ((n - i : Nat) : Int)) (w.drew.setCells g ((i + 2) * 2) ys) := fun ty dc sc => by
    have h := run_copy_xy (P := Try.prog) w.drew 22 22 ty 26 g ((i + 2) * 2) (n + 2 - (i + 2)) dc ⟨g, i * 2, none⟩ (n + 2 - i) sc ys Try.underlying22 hsz (by rw [hyl]; simp only [Nat.min_def]; split <;> omega)
      (fun j v hj => by rw [Addr.add_lit]; exact hyc j v hj) (fun j hj => hcell _ (by omega)) (fun j hj => hfz _) h1
    rwa [show Nat.min (n + 2 - i) (n + 2 - (i + 2)) = n - i by simp only [Nat.min_def]; split <;> omega] at h
  obtain ⟨W1, hW1⟩ : ∃ W1, W1 = w.drew.setCells g ((i + 2) * 2) ys := ⟨_, rfl⟩
  have hb1 : W1.heap[g]? = some (.cells (putAt' cur ((i + 2) * 2) ys) 26 (0, 0)) := by rw [hW1]; exact block_setCells' ys _ cur w.drew hg
  have hps : (putAt' cur ((i + 2) * 2) ys).size = cap * 2 := by rw [putAt'_size]; exact hcs
  have hvb : W1.heap[vb]? = some (.cells #[y0, y1, y2, y3] 26 (0, 0)) := by rw [hW1, heap_setCells_other ys _ _ hne]; exact hv
  have hcp2 : ∀ ty dc, (Builtin.copy_ #[ 22 , 22 ] ty #[.slice (some ⟨g, i * 2, none⟩) (n + 2 - i) dc, .slice (some ⟨vb, 0, none⟩) 2 vc]).run Try.prog W1 = .ok (goInt 2) (W1.setCells g (i * 2) [y0, y1, y2, y3]) := fun ty dc => by
    have h := run_copy_xy (P := Try.prog) W1 22 22 ty 26 g (i * 2) (n + 2 - i) dc ⟨vb, 0, none⟩ 2 vc [y0, y1, y2, y3] Try.underlying22 hsz (by simp only [Nat.min_def]; split <;> simp <;> omega)
      (fun j v hj => by
        rw [Addr.add_lit, Nat.zero_add, cell_of_row W1 vb _ _ _ (0, 0) hvb]; simpa using hj)
      (fun j hj => by rw [cell_of_row W1 g _ _ _ (0, 0) hb1, Array.getElem?_eq_getElem (by simp at hj; omega)]; rfl) (fun j hj => by unfold World.frozen?; simp [hb1]) h1v
    rwa [show Nat.min 2 (n + 2 - i) = 2 by simp only [Nat.min_def]; split <;> omega] at h
  rw [← hW1] at hcp1 ⊢
  have HW1 := Lib.hid hW1
  clear hb1 hps hvb hyc hcell hfz hyl hg hv hcs hys h1 h1v hW1 HW1
  have hz1 : ¬ ((i : Int) = (n : Int)) := by omega
  have hz2 : ¬ (cap : Int) < (n : Int) + 2 := by omega
  have mixed : Try.prog.follows Departure.mixedOrders = true := by kernel_rfl
  have hw1 : IntKind.i64.wrap ((i : Int) + 2) = (i : Int) + 2 := by rw [IntKind.wrap_i64]; omega
  have hb1 : (0 : Int) ≤ (i : Int) + 2 := by omega
  have hin : i ≤ n := by omega
  have htn : ((i : Int) + 2).toNat = i + 2 := by omega
  have hb2 : ¬ (cap = i + 2) := by omega
  have hb3 : (i : Int) ≤ (n : Int) + 2 := by omega
  have hb4 : ¬ (cap = i) := by omega
  go_enter Try.func59, Try.ntmps59
  go_wp2_with (simp only [hov])
  go_region_law_o (refine step_copy_runI rfl _ _ 22 22 rfl _ _ (by simp [Act.eval, Act.put]) (by simp [Act.eval, Act.put]) (hcp1 _ (cap - (i + 2)) (cap - i)) ?_)
  go_wp2_with (at_builtin; refine wpList_copy_runI _ rfl _ _ 22 22 rfl _ _ rfl rfl (hcp2 _ _) ?_)
  refine bodyPost_ret (v := .slice (some ⟨g, 0, none⟩) (n + 2) cap) (by simp [results, Try.results59, go_sem]) rfl ⟨rfl, rfl⟩
end Go.Proofs.Ytkkcnhhfdicppaa

namespace Go.Proofs.Ytkkcnhhfdicppaa
open Go.RowKit Lay Go.Lib
theorem ins_list {n i : Nat} {cur' : Array Value} {xs vs : List Value} (hi : i < n) (hx : xs.length = n * 2) (hv : vs.length = 4) (hs : (n + 2) * 2 ≤ cur'.size)
    (h : ∀ j, j < (n + 2) * 2 → cur'[j]? = if j < i * 2 then xs[j]? else if j < i * 2 + 4 then vs[j - i * 2]? else xs[j - 4]?) :
    cur'.toList.take ((n + 2) * 2) = xs.take (i * 2) ++ (vs ++ xs.drop (i * 2)) := by
  refine List.ext_getElem? fun j => ?_
  have l1 : (xs.take (i * 2)).length = i * 2 := by rw [List.length_take]; omega
  by_cases hj : j < (n + 2) * 2
  · rw [List.getElem?_take_of_lt hj, Array.getElem?_toList, h j hj]
    by_cases h1 : j < i * 2
    · rw [if_pos h1, List.getElem?_append_left (by omega), List.getElem?_take_of_lt h1]
    · rw [if_neg h1, List.getElem?_append_right (by omega), l1]
      by_cases h2 : j < i * 2 + 4
      · rw [if_pos h2, List.getElem?_append_left (by omega)]
      · rw [if_neg h2, List.getElem?_append_right (by omega), hv, List.getElem?_drop, show i * 2 + (j - i * 2 - 4) = j - 4 by omega]
  · rw [List.getElem?_eq_none (by rw [List.length_take, Array.length_toList]; omega), List.getElem?_eq_none (by rw [List.length_append, List.length_append, List.length_drop]; omega)]
set_option maxRecDepth 100000 in
set_option maxHeartbeats 8000000 in
theorem insert_grow (g n i cap vb vc : Nat) (cur : Array Value) (xs : List Value) (y0 y1 y2 y3 : Value) (w : World) (hi : i < n) (hn9 : n ≤ 100000) (hnc : n ≤ cap) (hr : cap < n + 2)
    (hg : w.heap[g]? = some (.cells cur 26 (0, 0))) (hcs : cur.size = cap * 2) (hys : cur.toList.take (n * 2) = xs) (h1 : ∀ v ∈ xs, v.oneCell' = true)
    (hv : w.heap[vb]? = some (.cells #[y0, y1, y2, y3] 26 (0, 0))) (h1v : ∀ v ∈ [y0, y1, y2, y3], v.oneCell' = true) :
    Calls Try.prog 59 #[.slice (some ⟨g, 0, none⟩) n cap, .int .i64 (i : Int), .slice (some ⟨vb, 0, none⟩) 2 vc] w fun e w' => ∃ (G : Nat) (ROW : Array Value), e = .returned (.slice (some ⟨w.heap.size, 0, none⟩) (n + 2) G) ∧ n + 2 ≤ G ∧ G ≤ maxLen ∧ ROW.size = G * 2 ∧ (∀ j, j < i * 2 → ROW[j]? = xs[j]?) ∧
      w' = (((w.alloc (.cells ROW 26)).drew.setCells w.heap.size (i * 2) [y0, y1, y2, y3]).drew).setCells w.heap.size ((i + 2) * 2) (xs.drop (i * 2)) := by
  obtain ⟨i0, hi0, hz0, hzs, hzb⟩ := info_parts xy_info
  have mixed : Try.prog.follows Departure.mixedOrders = true := by kernel_rfl
  have hsz : (Try.prog.info? 26 ).map (·.size) = some 2 := by kernel_rfl
  have hxl : xs.length = n * 2 := by rw [← hys, List.length_take, Array.length_toList]; omega
  have hbw : g < w.heap.size := (Array.getElem?_eq_some_iff.1 hg).1
  have hvw : vb < w.heap.size := (Array.getElem?_eq_some_iff.1 hv).1
  have hxc : ∀ j v, xs[j]? = some v → w.cell? ⟨g, j, none⟩ = some v := fun j v h => by
    have hj : j < n * 2 := by have := (List.getElem?_eq_some_iff.1 h).1; omega
    rw [cell_of_row w g _ cur _ (0, 0) hg]
    rw [← hys, List.getElem?_take_of_lt hj, Array.getElem?_toList] at h
    exact h
  have hold : (Builtin.firstCells i0.size i (.slice (some ⟨g, 0, none⟩) i cap)).run Try.prog w.drew = .ok (xs.take (i * 2)).toArray w.drew := by
    rw [hzs]
    exact run_firstCells_some w.drew 2 i ⟨g, 0, none⟩ i cap (xs.take (i * 2)) (by rw [List.length_take]; omega) (fun j v hj => by
      rw [Addr.add_lit, Nat.zero_add]
      rw [List.getElem?_take] at hj
      split at hj
      · exact hxc j v hj
      · cases hj)
  have hkk : (n : Int) + 2 - (i : Int) = ((n + 2 - i : Nat) : Int) := by omega
  have hik : i + (n + 2 - i) = n + 2 := by omega
  have hrz : ∀ ty, (Builtin.append_ #[ 22 , 3] ty #[.slice (some ⟨g, 0, none⟩) i cap, .int .i64 ((n : Int) + 2 - (i : Int))]).run Try.prog w =
      .ok (.slice (some ⟨w.heap.size, 0, none⟩) (n + 2) (grownCap w (n + 2) cap 26)) (w.drew.alloc (.cells ((xs.take (i * 2)).toArray ++ Builtin.zeroCells (Value.agg #[.int .i64 0, .int .i64 0]).cells (n + 2 - i) ++ Builtin.zeroCells (Value.agg #[.int .i64 0, .int .i64 0]).cells (grownCap w (n + 2) cap 26 - (n + 2))) 26)) := fun ty => by
    have h := Lib.run_append_grow_zeros w 22 3 ty 26 i0 _ .i64 .i64 Try.underlying22 Try.underlying3 hi0 hz0 (some ⟨g, 0, none⟩) i cap (xs.take (i * 2)) hold (n + 2 - i) (by omega) (by omega) (by omega) (by omega) (by rw [hzb]; omega) (by rw [hzb, hik]; exact growslice_fits hr (by omega))
    rw [hik] at h
    rw [hkk]
    exact h
  have hGn := grownCap_ge w (n + 2) cap 26
  have hG63 := grownCap_le_maxLen w (n + 2) cap 26 (by unfold maxLen; omega)
  obtain ⟨G, hG⟩ : ∃ G, G = grownCap w (n + 2) cap 26 := ⟨_, rfl⟩
  obtain ⟨ROW, hROW⟩ : ∃ ROW : Array Value, ROW = (xs.take (i * 2)).toArray ++ Builtin.zeroCells (Value.agg #[.int .i64 0, .int .i64 0]).cells (n + 2 - i) ++ Builtin.zeroCells (Value.agg #[.int .i64 0, .int .i64 0]).cells (G - (n + 2)) := ⟨_, rfl⟩
  rw [← hG] at hrz hGn hG63
  rw [← hROW] at hrz
  have hz2 : ∀ k, (Builtin.zeroCells (Value.agg #[.int .i64 0, .int .i64 0]).cells k).size = k * 2 := fun k => by
    simp [Builtin.zeroCells, Value.cells]; try omega
  have hRl : ROW.size = G * 2 := by
    rw [hROW, Array.size_append, Array.size_append, hz2, hz2, List.size_toArray, List.length_take]
    omega
  have hRx : ∀ j, j < i * 2 → ROW[j]? = xs[j]? := fun j hj => by
    rw [hROW, Array.append_assoc, Array.getElem?_append_left (by rw [List.size_toArray, List.length_take]; omega), List.getElem?_toArray, List.getElem?_take_of_lt hj]
  obtain ⟨W1, hW1⟩ : ∃ W1, W1 = w.drew.alloc (.cells ROW 26) := ⟨_, rfl⟩
  rw [← hW1] at hrz
  have hb1 : W1.heap[w.heap.size]? = some (.cells ROW 26 (0, 0)) := by rw [hW1]; exact heap_alloc_new w.drew _
  have hbg1 : W1.heap[g]? = some (.cells cur 26 (0, 0)) := by rw [hW1]; exact (Below.heap_alloc _ _ _ hbw).trans hg
  have hbv1 : W1.heap[vb]? = some (.cells #[y0, y1, y2, y3] 26 (0, 0)) := by rw [hW1]; exact (Below.heap_alloc _ _ _ hvw).trans hv
  have hcpA : ∀ (W : World), (∀ x, W.cell? x = W1.cell? x) → (∀ x, W.frozen? x = W1.frozen? x) → ∀ ty dc, (Builtin.copy_ #[ 22 , 22 ] ty #[.slice (some ⟨w.heap.size, i * 2, none⟩) (n + 2 - i) dc, .slice (some ⟨vb, 0, none⟩) 2 vc]).run Try.prog W = .ok (goInt 2) (W.setCells w.heap.size (i * 2) [y0, y1, y2, y3]) := fun W hWc hWf ty dc => by
    have h := run_copy_xy (P := Try.prog) W 22 22 ty 26 w.heap.size (i * 2) (n + 2 - i) dc ⟨vb, 0, none⟩ 2 vc [y0, y1, y2, y3] Try.underlying22 hsz (by simp only [Nat.min_def]; split <;> simp <;> omega)
      (fun j v hj => by rw [Addr.add_lit, Nat.zero_add, hWc, cell_of_row W1 vb _ _ _ (0, 0) hbv1]; simpa using hj)
      (fun j hj => by rw [hWc, cell_of_row W1 _ _ _ _ (0, 0) hb1, Array.getElem?_eq_getElem (by simp at hj; omega)]; rfl) (fun j hj => by rw [hWf]; unfold World.frozen?; simp [hb1]) h1v
    rwa [show Nat.min 2 (n + 2 - i) = 2 by simp only [Nat.min_def]; split <;> omega] at h
  have hb2 : (W1.setCells w.heap.size (i * 2) [y0, y1, y2, y3]).heap[w.heap.size]? = some (.cells (putAt' ROW (i * 2) [y0, y1, y2, y3]) 26 (0, 0)) := block_setCells' _ _ _ _ hb1
  have hbg2 : (W1.setCells w.heap.size (i * 2) [y0, y1, y2, y3]).heap[g]? = some (.cells cur 26 (0, 0)) := (heap_setCells_other _ _ _ (by omega)).trans hbg1
  have hdl : (xs.drop (i * 2)).length = (n - i) * 2 := by rw [List.length_drop]; omega
  have hcpB : ∀ (W : World), (∀ x, W.cell? x = (W1.setCells w.heap.size (i * 2) [y0, y1, y2, y3]).cell? x) → (∀ x, W.frozen? x = (W1.setCells w.heap.size (i * 2) [y0, y1, y2, y3]).frozen? x) → ∀ ty dc sc, (Builtin.copy_ #[ 22 , 22 ] ty #[.slice (some ⟨w.heap.size, (i + 2) * 2, none⟩) (n + 2 - (i + 2)) dc, .slice (some ⟨g, i * 2, none⟩) (n - i) sc]).run Try.prog W = .ok (goInt ((n - i : Nat) : Int)) (W.setCells w.heap.size ((i + 2) * 2) (xs.drop (i * 2))) := fun W hWc hWf ty dc sc => by
    have h := run_copy_xy (P := Try.prog) W 22 22 ty 26 w.heap.size ((i + 2) * 2) (n + 2 - (i + 2)) dc ⟨g, i * 2, none⟩ (n - i) sc (xs.drop (i * 2)) Try.underlying22 hsz (by rw [hdl]; simp only [Nat.min_def]; split <;> omega)
      (fun j v hj => by
        rw [Addr.add_lit, hWc, cell_of_row _ g _ _ _ (0, 0) hbg2]
        rw [List.getElem?_drop] at hj
        have hj' : i * 2 + j < n * 2 := by have := (List.getElem?_eq_some_iff.1 hj).1; omega
        rw [← hys, List.getElem?_take_of_lt hj', Array.getElem?_toList] at hj
        exact hj)
      (fun j hj => by rw [hWc, cell_of_row _ _ _ _ _ (0, 0) hb2, Array.getElem?_eq_getElem (by rw [putAt'_size]; omega)]; rfl)
      (fun j hj => by rw [hWf]; unfold World.frozen?; simp [hb2]) (fun v hv => h1 v (List.mem_of_mem_drop hv))
    rwa [show Nat.min (n - i) (n + 2 - (i + 2)) = n - i by simp only [Nat.min_def]; split <;> omega] at h
  subst hW1
  have hE1 : ∀ x, ((w.alloc (.cells ROW 26)).drew).cell? x = (w.drew.alloc (.cells ROW 26)).cell? x := fun x => rfl
  have hE2 : ∀ x, ((w.alloc (.cells ROW 26)).drew).frozen? x = (w.drew.alloc (.cells ROW 26)).frozen? x := fun x => rfl
  have hF1 : ∀ x, (((w.alloc (.cells ROW 26)).drew.setCells w.heap.size (i * 2) [y0, y1, y2, y3]).drew).cell? x = ((w.drew.alloc (.cells ROW 26)).setCells w.heap.size (i * 2) [y0, y1, y2, y3]).cell? x := fun x => rfl
  have hF2 : ∀ x, (((w.alloc (.cells ROW 26)).drew.setCells w.heap.size (i * 2) [y0, y1, y2, y3]).drew).frozen? x = ((w.drew.alloc (.cells ROW 26)).setCells w.heap.size (i * 2) [y0, y1, y2, y3]).frozen? x := fun x => rfl
  have hz1 : ¬ ((i : Int) = (n : Int)) := by omega
  have hz3 : (cap : Int) < (n : Int) + 2 := by omega
  have hGi : ¬ (G = i) := by omega
  have hGim : ¬ (G = i + 2) := by omega
  have hci : ¬ (cap = i) := by omega
  have hw1 : IntKind.i64.wrap ((i : Int) + 2) = (i : Int) + 2 := by rw [IntKind.wrap_i64]; omega
  have hb1' : (0 : Int) ≤ (i : Int) + 2 := by omega
  have hin : i ≤ n := by omega
  have htn : ((i : Int) + 2).toNat = i + 2 := by omega
  have hb3 : (i : Int) ≤ (n : Int) := by omega
  have hgg := Lib.hid (And.intro hGn (And.intro hG63 (And.intro hRl hRx)))
  have hG63' : G ≤ 9223372036854775807 := by unfold maxLen at hG63; omega
  clear hkk hik hold hROW hG hRl hRx hb1 hbg1 hbv1 hb2 hbg2 hdl hys hg hv hxc hxl hz2 h1 h1v hz0 hzs hzb hcs
  go_enter Try.func59, Try.ntmps59
  go_wp2_with (first
    | (at_builtin; refine Lib.wpList_append_run _ rfl _ _ _ _ rfl _ _ rfl rfl _ _ (hrz _) ?_)
    | (at_builtin; refine wpList_copy_runI _ rfl _ _ 22 22 rfl _ _ rfl rfl (hcpA _ hE1 hE2 _ _) ?_)
    | (at_builtin; refine wpList_copy_runI _ rfl _ _ 22 22 rfl _ _ rfl rfl (hcpB _ (fun _ => rfl) (fun _ => rfl) _ _ _) ?_))
  go_region_law_o (refine step_copy_runI rfl _ _ 22 22 rfl (.slice (some ⟨w.heap.size, (i + 2) * 2, none⟩) (n + 2 - (i + 2)) (G - (i + 2))) (.slice (some ⟨g, i * 2, none⟩) (n - i) (cap - i)) (by simp [Act.eval, Act.put]) (by simp [Act.eval, Act.put]) (hcpB _ hF1 hF2 3 (G - (i + 2)) (cap - i)) ?_)
  go_wp2
  refine bodyPost_ret (v := .slice (some ⟨w.heap.size, 0, none⟩) (n + 2) G) (by simp [results, Try.results59, go_sem]) rfl ⟨G, ROW, rfl, hgg.out.1, hgg.out.2.1, hgg.out.2.2.1, hgg.out.2.2.2, rfl⟩
end Go.Proofs.Ytkkcnhhfdicppaa

namespace Go.Proofs.Ytkkcnhhfdicppaa
open Go.RowKit Lay Go.Lib
theorem insert_any (B n i vb vc : Nat) (V : Value) (xs : List Value) (y0 y1 y2 y3 : Value) (w : World) (hi : i < n) (hn9 : n ≤ 100000) (hB : B ≤ w.heap.size) (hown : w.ownsRow B 26 2 V n xs) (h1 : ∀ v ∈ xs, v.oneCell' = true)
    (hv : w.heap[vb]? = some (.cells #[y0, y1, y2, y3] 26 (0, 0))) (hne : V.ownBlock ≠ some vb) (h1v : ∀ v ∈ [y0, y1, y2, y3], v.oneCell' = true) :
    Calls Try.prog 59 #[V, .int .i64 (i : Int), .slice (some ⟨vb, 0, none⟩) 2 vc] w fun e w' => ∃ v', e = .returned v' ∧ w'.ownsRow B 26 2 v' (n + 2) (xs.take (i * 2) ++ ([y0, y1, y2, y3] ++ xs.drop (i * 2))) ∧ Below B w w' ∧ (∀ k, k < w.heap.size → V.ownBlock ≠ some k → w'.heap[k]? = w.heap[k]?) ∧ (v'.ownBlock = V.ownBlock ∨ ∃ g, v'.ownBlock = some g ∧ w.heap.size ≤ g) := by
  obtain ⟨hxl, h2⟩ := hown
  have hlen : (xs.take (i * 2) ++ ([y0, y1, y2, y3] ++ xs.drop (i * 2))).length = (n + 2) * 2 := by
    rw [List.length_append, List.length_append, List.length_take, List.length_drop]; simp; omega
  rcases h2 with ⟨_, h0⟩ | ⟨g, cap, cur, rfl, hbg, hg, hnc, hcm, hcs, hx⟩
  · omega
  have hvg : vb ≠ g := fun e => hne (by rw [e]; rfl)
  have hgl : g < w.heap.size := (Array.getElem?_eq_some_iff.1 hg).1
  have hdl : (xs.drop (i * 2)).length = (n - i) * 2 := by rw [List.length_drop]; omega
  by_cases hr : n + 2 ≤ cap
  · refine (insert_room g n i cap vb vc cur (xs.drop (i * 2)) y0 y1 y2 y3 w hi hr (by unfold maxLen at hcm; omega) hg hcs (by rw [hx]) (fun v hv => h1 v (List.mem_of_mem_drop hv)) hv hvg h1v).mono ?_
    rintro e w' ⟨rfl, rfl⟩
    refine ⟨_, rfl, ⟨hlen, Or.inr ⟨g, cap, _, rfl, hbg, block_setCells' _ _ _ _ (block_setCells' _ _ _ _ hg), hr, hcm, by rw [putAt'_size, putAt'_size]; exact hcs, ins_list hi hxl rfl (by rw [putAt'_size, putAt'_size]; omega) fun j hj => ?_⟩⟩, below_mids hbg _ _ (below_mids hbg _ _ (Below.refl B w).drew), fun k hk hne' => ?_, Or.inl rfl⟩
    · rw [putAt'_get _ _ _ (by rw [putAt'_size]; simp; omega), putAt'_get _ _ _ (by rw [hdl]; omega)]
      by_cases a1 : j < i * 2
      · rw [if_pos a1, if_pos (by omega), if_pos a1, ← hx, List.getElem?_take_of_lt (by omega), Array.getElem?_toList]
      · rw [if_neg a1, if_neg a1]
        by_cases a2 : j < i * 2 + 4
        · rw [if_pos (by simpa using a2), if_pos a2]
        · rw [if_neg (by simpa using a2), if_neg a2, if_neg (by omega), if_pos (by omega), List.getElem?_drop, show i * 2 + (j - (i + 2) * 2) = j - 4 by omega]
    · have hkg : k ≠ g := fun e => hne' (by rw [e]; rfl)
      exact (heap_setCells_other _ _ _ hkg).trans (heap_setCells_other _ _ _ hkg)
  · refine (insert_grow g n i cap vb vc cur xs y0 y1 y2 y3 w hi hn9 hnc (by omega) hg hcs hx h1 hv h1v).mono ?_
    rintro e w' ⟨G, ROW, rfl, hG, hGm, hRs, hRx, rfl⟩
    have hnew : ((w.alloc (.cells ROW 26)).drew).heap[w.heap.size]? = some (.cells ROW 26 (0, 0)) := heap_alloc_new w _
    refine ⟨_, rfl, ⟨hlen, Or.inr ⟨w.heap.size, G, _, rfl, hB, block_setCells' _ _ _ _ (block_setCells' (b := w.heap.size) _ _ _ _ hnew), hG, hGm, by rw [putAt'_size, putAt'_size]; exact hRs, ins_list hi hxl rfl (by rw [putAt'_size, putAt'_size]; omega) fun j hj => ?_⟩⟩, below_mids hB _ _ (below_mids hB _ _ ((Below.refl B w).alloc hB _).drew).drew, fun k hk hne' => ?_, Or.inr ⟨_, rfl, Nat.le_refl _⟩⟩
    · rw [putAt'_get _ _ _ (by rw [putAt'_size, hdl]; omega), putAt'_get _ _ _ (by simp; omega)]
      by_cases a1 : j < i * 2
      · rw [if_pos (by omega), if_pos a1, if_pos a1, hRx j a1]
      · rw [if_neg a1, if_neg a1]
        by_cases a2 : j < i * 2 + 4
        · rw [if_pos (by omega), if_pos (by simpa using a2), if_pos a2]
        · rw [if_neg (by omega), if_pos (by omega), if_neg a2, List.getElem?_drop, show i * 2 + (j - (i + 2) * 2) = j - 4 by omega]
    · have hkg : k ≠ w.heap.size := by omega
      exact (heap_setCells_other _ _ _ hkg).trans ((heap_setCells_other _ _ _ hkg).trans (Below.heap_alloc _ _ _ hk))
set_option maxRecDepth 100000 in
set_option maxHeartbeats 4000000 in
theorem clone_any (n cp : Nat) (ao : Option Addr) (X Y : Nat → Int) (w : World) (h0 : 1 ≤ n) (hn : n ≤ 100000) (hc : XYs w ao n X Y) :
    Calls Try.prog 56 #[.slice ao n cp] w fun e w' => ∃ v, e = .returned v ∧ w'.ownsRow w.heap.size 26 2 v n (xyC (prL X Y n)) ∧ Below w.heap.size w w' := by
  obtain ⟨i0, hi, hz0, hz1', hz2'⟩ := info_parts xy_info
  have HI := Lib.hid (And.intro hi (And.intro hz0 (And.intro hz1' hz2')))
  clear hi hz0 hz1' hz2'
  obtain ⟨b, o, rfl, hcell⟩ := hc (by omega)
  have HN : Hid (∀ j u, (xyC (prL X Y n))[j]? = some u → w.cell? ((⟨b, o, none⟩ : Addr).add j) = some u) := Lib.hid (news_xys hcell)
  have hbl : b < w.heap.size := World.block_lt_of_cell? w _ (hcell 0 (by omega)).1
  clear hc hcell
  have he : ∀ w : World, (binOp .eql 22 (.slice (some ⟨b, o, none⟩) n cp) (.slice none 0 0)).run Try.prog w = .ok (.bool false) w := fun _ => rfl
  go_enter Try.func56, Try.ntmps56
  go_upto_region 3 with fail
  refine wp_region_lit ?_
  refine wpList_step (fun K hK => ?_); go_simp; refine hK _ _ ?_; clear hK K
  refine wpList_step (fun K hK => ?_); go_simp; refine hK _ _ ?_; clear hK K
  have hmade : (w.alloc (.cells #[] 26)).ownsRow w.heap.size 26 2 (.slice (some ⟨w.heap.size, 0, none⟩) 0 0) 0 [] := World.ownsRow_made (size := 2) (base := w.heap.size) w (e := 26) #[] 0 (Nat.le_refl _) (by unfold maxLen; omega) rfl
  have hnews : ∀ j u, (xyC (prL X Y n))[j]? = some u → (w.alloc (.cells #[] 26)).cell? ((⟨b, o, none⟩ : Addr).add j) = some u := fun j u hu => (World.cell?_of_block (Below.heap_alloc _ _ _ (by rw [Addr.add_lit]; exact hbl))).trans (HN.out j u hu)
  refine wpList_append_own _ rfl _ _ 22 rfl w.heap.size 26 i0 _ 2 16 Try.underlying22 HI.out.1 HI.out.2.1 HI.out.2.2.1 HI.out.2.2.2 (by rfl) (by decide) (.slice (some ⟨w.heap.size, 0, none⟩) 0 0) 0 [] (by rfl) hmade ⟨b, o, none⟩ n cp (xyC (prL X Y n)) (by rfl) (by rw [xyC_len, prL_len]) hnews (xyC_one _) (by unfold maxLen; omega) (by omega) (by simp) ?_
  intro v' w9 hown' hgrow hnil
  have hown : w9.ownsRow w.heap.size 26 2 v' n (xyC (prL X Y n)) := by rw [Nat.zero_add] at hown'; exact hown'
  have HO := Lib.hid hown
  have HB : Hid (Below w.heap.size w w9) := Lib.hid (((Below.refl w.heap.size w).alloc (Nat.le_refl _) _).grown hgrow (by simp) (fun j hj => by have : w.heap.size = j := Option.some.inj hj; omega))
  clear hown hown' hgrow hnil hmade hnews
  refine wpList_step (fun K hK => ?_); go_simp; refine hK _ _ ?_; clear hK K
  refine wpList_nil ?_
  go_wp2_with fail
  refine bodyPost_ret (v := v') (by simp [results, Try.results56, go_sem]) rfl ⟨v', rfl, HO.out, HB.out⟩
end Go.Proofs.Ytkkcnhhfdicppaa
