import Derived.Test.YtkkcnhhfdicppaaSa7
namespace Go.Proofs.Ytkkcnhhfdicppaa
open Go.RowKit Lay
/-- Only blocks of S are written, and new ones made. -/
structure Oth (S : Nat → Prop) (w w' : World) : Prop where
  os : w'.os = w.os
  tape : w'.tape = w.tape
  output : w'.output = w.output
  size : w.heap.size ≤ w'.heap.size
  block : ∀ k, k < w.heap.size → ¬ S k → w'.heap[k]? = w.heap[k]?
theorem Oth.refl (S : Nat → Prop) (w : World) : Oth S w w := ⟨rfl, rfl, rfl, Nat.le_refl _, fun _ _ _ => rfl⟩
theorem Oth.trans {S : Nat → Prop} {a b c : World} (h : Oth S a b) (k : Oth S b c) : Oth S a c :=
  ⟨k.os.trans h.os, k.tape.trans h.tape, k.output.trans h.output, Nat.le_trans h.size k.size, fun i hi hs => (k.block i (Nat.lt_of_lt_of_le hi h.size) hs).trans (h.block i hi hs)⟩
theorem Oth.mono {S S' : Nat → Prop} {w w' : World} (h : Oth S w w') (hs : ∀ k, k < w.heap.size → S k → S' k) : Oth S' w w' := ⟨h.os, h.tape, h.output, h.size, fun k hk hn => h.block k hk fun e => hn (hs k hk e)⟩
theorem Oth.of_below {S : Nat → Prop} {w w' : World} (h : Below w.heap.size w w') : Oth S w w' := ⟨h.os, h.tape, h.output, h.size, fun k hk _ => h.block k hk⟩
theorem Oth.below {S : Nat → Prop} {w w' : World} (h : Oth S w w') {B : Nat} (hB : B ≤ w.heap.size) (hs : ∀ k, k < B → ¬ S k) : Below B w w' := ⟨h.os, h.tape, h.output, h.size, fun k hk => h.block k (Nat.lt_of_lt_of_le hk hB) (hs k hk)⟩
theorem Oth.of_grown {S : Nat → Prop} {w w' : World} {row : Option Nat} (h : w.grownBy w' row) (hs : ∀ k, row = some k → S k) : Oth S w w' := ⟨h.os, h.tape, h.output, h.size, fun k hk hn => h.block k hk fun e => hn (hs k e.symm)⟩
theorem Oth.drew {S : Nat → Prop} {w w' : World} (h : Oth S w w') : Oth S w w'.drew := ⟨h.os, h.tape, h.output, h.size, h.block⟩
theorem Oth.alloc {S : Nat → Prop} {w w' : World} (h : Oth S w w') (o : Obj) : Oth S w (w'.alloc o) := h.trans (Oth.of_below ((Below.refl _ _).alloc (Nat.le_refl _) o))
/-- Visits in a block: so many, with so much room. -/
def QArr (w : World) (g n cap : Nat) (f : Nat → V) : Prop :=
  ∃ cur : Array Value, w.heap[g]? = some (.cells cur 124 (0, 0)) ∧ cur.size = cap * 4 ∧ n ≤ cap ∧ cap ≤ maxLen ∧
    ∀ i, i < n → cur[i * 4]? = some (.int .i64 (f i).x) ∧ cur[i * 4 + 1]? = some (.int .i64 (f i).y) ∧ cur[i * 4 + 2]? = some (.int .i64 (f i).d) ∧ cur[i * 4 + 3]? = some (.int .i64 (f i).c)
theorem QArr.keep {w w' : World} {g n cap : Nat} {f : Nat → V} (h : QArr w g n cap f) (e : w'.heap[g]? = w.heap[g]?) : QArr w' g n cap f := by
  obtain ⟨cur, hc, r⟩ := h
  exact ⟨cur, e.trans hc, r⟩
theorem QArr.drew {w : World} {g n cap : Nat} {f : Nat → V} (h : QArr w g n cap f) : QArr w.drew g n cap f := h
theorem QArr.lt {w : World} {g n cap : Nat} {f : Nat → V} (h : QArr w g n cap f) : g < w.heap.size := by
  obtain ⟨cur, hc, _⟩ := h
  exact (Array.getElem?_eq_some_iff.1 hc).1
theorem QArr.less {w : World} {g n cap m : Nat} {f : Nat → V} (h : QArr w g n cap f) (hm : m ≤ n) : QArr w g m cap f := by
  obtain ⟨cur, hc, hs, h1, h2, h3⟩ := h
  exact ⟨cur, hc, hs, by omega, h2, fun i hi => h3 i (by omega)⟩
theorem cell_of_blk {w : World} {g j : Nat} {cur : Array Value} {T : TypeId} {fr : Nat × Nat} {v : Value} (h : w.heap[g]? = some (.cells cur T fr)) (hv : cur[j]? = some v) : w.cell? ⟨g, j, none⟩ = some v := by
  have := cell_of_row w g j cur T fr h
  rw [this]
  exact hv
theorem QArr.c {w : World} {g n cap i : Nat} {f : Nat → V} (h : QArr w g n cap f) (hi : i < n) : w.cell? ⟨g, i * 4 + 3, none⟩ = some (.int .i64 (f i).c) := by
  obtain ⟨cur, hc, _, _, _, h3⟩ := h
  exact cell_of_blk hc (h3 i hi).2.2.2
set_option maxRecDepth 100000 in
theorem qLess_any (g n cap i j : Nat) (f : Nat → V) (w : World) (h : QArr w g n cap f) (_hn : n ≤ 1000000) (hi : i < n) (hj : j < n) :
    Calls Try.prog 108 #[.slice (some ⟨g, 0, none⟩) n cap, .int .i64 i, .int .i64 j] w fun e w' => e = .returned (.bool (decide ((f i).c < (f j).c))) ∧ Oth (fun _ => False) w w' := by
  have hx := h.c hi
  have hy := h.c hj
  have HQ := Lib.hid h
  clear h
  go_enter Try.func108, Try.ntmps108
  go_wp2_with fail
  go_quiet (fail)
  go_wp2_with fail
  refine bodyPost_ret (v := .bool (decide ((f i).c < (f j).c))) (by simp [results, Try.results108, go_sem]) rfl ⟨rfl, rfl, rfl, rfl, Nat.le_refl _, fun _ _ _ => rfl⟩
set_option maxRecDepth 100000 in
theorem qLen_any (a : Option Addr) (n cap : Nat) (w : World) :
    Calls Try.prog 78 #[.slice a n cap] w fun e w' => e = .returned (.int .i64 n) ∧ w' = w := by
  go_enter Try.func78, Try.ntmps78
  go_wp2_with fail
  go_ret
  exact ⟨rfl, rfl⟩
theorem QArr.e {w : World} {g n cap i : Nat} {f : Nat → V} (h : QArr w g n cap f) (hi : i < n) : (w.cell? ⟨g, i * 4, none⟩ = some (.int .i64 (f i).x) ∧ w.cell? ⟨g, i * 4 + 1, none⟩ = some (.int .i64 (f i).y) ∧ w.cell? ⟨g, i * 4 + 2, none⟩ = some (.int .i64 (f i).d) ∧ w.cell? ⟨g, i * 4 + 3, none⟩ = some (.int .i64 (f i).c)) ∧ ∀ j, w.frozen? ⟨g, j, none⟩ = false := by
  obtain ⟨cur, hc, _, _, _, h3⟩ := h
  obtain ⟨a, b, c, d⟩ := h3 i hi
  refine ⟨⟨cell_of_blk hc a, cell_of_blk hc b, cell_of_blk hc c, cell_of_blk hc d⟩, fun j => ?_⟩
  simp [World.frozen?, hc]
theorem blk_set {w : World} {g j : Nat} {cur : Array Value} {T : TypeId} (h : w.heap[g]? = some (.cells cur T (0, 0))) (v : Value) : (w.setCell ⟨g, j, none⟩ v).heap[g]? = some (.cells (cur.setIfInBounds j v) T (0, 0)) := by
  simp [World.setCell, Array.getElem?_modify, h]
theorem Oth.set {S : Nat → Prop} {w w' : World} (h : Oth S w w') {g : Nat} (hg : S g) (j : Nat) (v : Value) : Oth S w (w'.setCell ⟨g, j, none⟩ v) :=
  h.trans ⟨rfl, rfl, rfl, by simp [World.setCell], fun k _ hn => Below.heap_setCell _ _ _ k (fun e => hn (by rw [e]; exact hg))⟩
theorem QArr.set4 {w : World} {g n cap : Nat} {f : Nat → V} (h : QArr w g n cap f) {i : Nat} (hi : i < n) (v : V) :
    QArr ((((w.setCell ⟨g, i * 4, none⟩ (.int .i64 v.x)).setCell ⟨g, i * 4 + 1, none⟩ (.int .i64 v.y)).setCell ⟨g, i * 4 + 2, none⟩ (.int .i64 v.d)).setCell ⟨g, i * 4 + 3, none⟩ (.int .i64 v.c)) g n cap (upd f i v) := by
  obtain ⟨cur, hc, hs, h1, h2, h3⟩ := h
  refine ⟨_, blk_set (blk_set (blk_set (blk_set hc _) _) _) _, by simpa using hs, h1, h2, fun k hk => ?_⟩
  obtain ⟨a, b, c, d⟩ := h3 k hk
  by_cases e : k = i
  · subst e
    rw [upd_eq]
    have s0 : k * 4 < cur.size := by omega
    have s1 : k * 4 + 1 < cur.size := by omega
    have s2 : k * 4 + 2 < cur.size := by omega
    have s3 : k * 4 + 3 < cur.size := by omega
    refine ⟨?_, ?_, ?_, ?_⟩ <;> simp [s0, s1, s2, s3]
  · rw [upd_ne f v e]
    refine ⟨?_, ?_, ?_, ?_⟩
    all_goals
      repeat rw [Array.getElem?_setIfInBounds_ne (by omega)]
      assumption
set_option maxRecDepth 100000 in
set_option maxHeartbeats 2000000 in
theorem qSwap_any (g n cap i j : Nat) (f : Nat → V) (w : World) (h : QArr w g n cap f) (_hn : n ≤ 1000000) (hi : i < n) (hj : j < n) :
    Calls Try.prog 111 #[.slice (some ⟨g, 0, none⟩) n cap, .int .i64 i, .int .i64 j] w fun e w' => e = .returned (.tuple #[]) ∧ Oth (fun k => k = g) w w' ∧ QArr w' g n cap (swp f i j) := by
  obtain ⟨⟨a0, a1, a2, a3⟩, fr⟩ := h.e hi
  obtain ⟨⟨b0, b1, b2, b3⟩, _⟩ := h.e hj
  have HQ := Lib.hid h
  clear h
  have hsw : swp f i j = upd (upd f i (f j)) j (f i) := by
    funext k; unfold swp upd; rfl
  rw [hsw]
  have HE := Lib.hid hsw
  clear hsw
  by_cases hij : i = j
  case pos =>
    subst hij
    go_enter Try.func111, Try.ntmps111
    go_region
    go_wp2_with fail
    go_end0
    refine ⟨rfl, ?_, ?_⟩
    · refine Oth.drew ?_
      exact ((((((((Oth.refl _ w).set (S := fun k => k = g) rfl _ _).set rfl _ _).set rfl _ _).set rfl _ _).set rfl _ _).set rfl _ _).set rfl _ _).set rfl _ _
    · refine QArr.drew ?_
      have q := (HQ.out.set4 hi (f i)).set4 hi (f i)
      exact q
  have n00 : ¬ j * 4 = i * 4 := by omega
  have m00 : ¬ i * 4 = j * 4 := by omega
  have n01 : ¬ j * 4 = i * 4 + 1 := by omega
  have m01 : ¬ i * 4 + 1 = j * 4 := by omega
  have n02 : ¬ j * 4 = i * 4 + 2 := by omega
  have m02 : ¬ i * 4 + 2 = j * 4 := by omega
  have n03 : ¬ j * 4 = i * 4 + 3 := by omega
  have m03 : ¬ i * 4 + 3 = j * 4 := by omega
  have n10 : ¬ j * 4 + 1 = i * 4 := by omega
  have m10 : ¬ i * 4 = j * 4 + 1 := by omega
  have n11 : ¬ j * 4 + 1 = i * 4 + 1 := by omega
  have m11 : ¬ i * 4 + 1 = j * 4 + 1 := by omega
  have n12 : ¬ j * 4 + 1 = i * 4 + 2 := by omega
  have m12 : ¬ i * 4 + 2 = j * 4 + 1 := by omega
  have n13 : ¬ j * 4 + 1 = i * 4 + 3 := by omega
  have m13 : ¬ i * 4 + 3 = j * 4 + 1 := by omega
  have n20 : ¬ j * 4 + 2 = i * 4 := by omega
  have m20 : ¬ i * 4 = j * 4 + 2 := by omega
  have n21 : ¬ j * 4 + 2 = i * 4 + 1 := by omega
  have m21 : ¬ i * 4 + 1 = j * 4 + 2 := by omega
  have n22 : ¬ j * 4 + 2 = i * 4 + 2 := by omega
  have m22 : ¬ i * 4 + 2 = j * 4 + 2 := by omega
  have n23 : ¬ j * 4 + 2 = i * 4 + 3 := by omega
  have m23 : ¬ i * 4 + 3 = j * 4 + 2 := by omega
  have n30 : ¬ j * 4 + 3 = i * 4 := by omega
  have m30 : ¬ i * 4 = j * 4 + 3 := by omega
  have n31 : ¬ j * 4 + 3 = i * 4 + 1 := by omega
  have m31 : ¬ i * 4 + 1 = j * 4 + 3 := by omega
  have n32 : ¬ j * 4 + 3 = i * 4 + 2 := by omega
  have m32 : ¬ i * 4 + 2 = j * 4 + 3 := by omega
  have n33 : ¬ j * 4 + 3 = i * 4 + 3 := by omega
  have m33 : ¬ i * 4 + 3 = j * 4 + 3 := by omega
  go_enter Try.func111, Try.ntmps111
  go_region
  go_wp2_with fail
  go_end0
  refine ⟨rfl, ?_, ?_⟩
  · refine Oth.drew ?_
    exact ((((((((Oth.refl _ w).set (S := fun k => k = g) rfl _ _).set rfl _ _).set rfl _ _).set rfl _ _).set rfl _ _).set rfl _ _).set rfl _ _).set rfl _ _
  · refine QArr.drew ?_
    have q := (HQ.out.set4 hi (f j)).set4 hj (f i)
    exact q
end Go.Proofs.Ytkkcnhhfdicppaa
