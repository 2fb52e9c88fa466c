import Derived.Test.YtkkcnhhfdicppaaPr7
namespace Lay
def btw (lo hi p : Int) : Bool := decide (lo < p) && decide (p < hi)
/-- The places of those of the first k ends that lie on the rim; the ends among them; how many. -/
def muP (P : Nat → Int) : Nat → List Int
  | 0 => []
  | k + 1 => if 0 ≤ P k then muP P k ++ [P k] else muP P k
def muB (X Y P : Nat → Int) : Nat → Int → Int → Bool
  | 0 => fun _ _ => false
  | k + 1 => if 0 ≤ P k then (fun p q => muB X Y P k p q || decide (p = X k ∧ q = Y k)) else muB X Y P k
def muC (X Y P : Nat → Int) : Nat → Nat
  | 0 => 0
  | k + 1 => if 0 ≤ P k then (if muB X Y P k (X k) (Y k) then muC X Y P k else muC X Y P k + 1) else muC X Y P k
/-- Four different cells of the rim. -/
def muO (P : Nat → Int) : Bool := decide ((0 ≤ P 0 ∧ 0 ≤ P 1 ∧ 0 ≤ P 2 ∧ 0 ≤ P 3) ∧ P 0 ≠ P 1 ∧ P 0 ≠ P 2 ∧ P 1 ≠ P 2 ∧ P 0 ≠ P 3 ∧ P 1 ≠ P 3 ∧ P 2 ≠ P 3)
def muR (P : Nat → Int) : Bool := btw (min (P 0) (P 1)) (max (P 0) (P 1)) (P 2) != btw (min (P 0) (P 1)) (max (P 0) (P 1)) (P 3)
def muV (on o r : Bool) : Bool := on && o && r
def muE (on o : Bool) : Int := if on = true then (if o = true then 0 else 2) else 72
theorem muC_le {X Y P : Nat → Int} : ∀ k, muC X Y P k ≤ k
  | 0 => Nat.le_refl _
  | k + 1 => by
    have := muC_le (X := X) (Y := Y) (P := P) k
    simp only [muC]
    split
    · split <;> omega
    · omega
theorem muP_len {P : Nat → Int} : ∀ k, (muP P k).length ≤ k
  | 0 => Nat.le_refl _
  | k + 1 => by
    have := muP_len (P := P) k
    simp only [muP]
    split
    · rw [List.length_append]; simp; omega
    · omega
/-- The prefix is whole as long as each end is new and on the rim. -/
theorem mu_pre {X Y P : Nat → Int} : ∀ k, muC X Y P k = k → (∀ j, j < k → 0 ≤ P j) ∧ repN X Y k = false ∧ muP P k = (List.range k).map P ∧ ∀ p q, muB X Y P k p q = blkN X Y k p q
  | 0, _ => ⟨fun j h => by omega, rfl, rfl, fun _ _ => rfl⟩
  | k + 1, h => by
    have h1 := muC_le (X := X) (Y := Y) (P := P) k
    simp only [muC] at h
    by_cases hp : 0 ≤ P k
    · rw [if_pos hp] at h
      by_cases hb : muB X Y P k (X k) (Y k) = true
      · rw [if_pos hb] at h; omega
      · rw [if_neg hb] at h
        obtain ⟨a, b, c, d⟩ := mu_pre (X := X) (Y := Y) (P := P) k (by omega)
        refine ⟨fun j hj => ?_, ?_, ?_, fun p q => ?_⟩
        · by_cases e : j = k
          · rw [e]; exact hp
          · exact a j (by omega)
        · simp only [repN, Bool.or_eq_false_iff]
          exact ⟨b, by rw [← d]; simpa using hb⟩
        · simp only [muP]
          rw [if_pos hp, c, List.range_succ, List.map_append]
          rfl
        · simp only [muB]
          rw [if_pos hp]
          simp only [blkN, d]
    · rw [if_neg hp] at h; omega
theorem mu_post {X Y P : Nat → Int} : ∀ k, (∀ j, j < k → 0 ≤ P j) → repN X Y k = false → muC X Y P k = k ∧ ∀ p q, muB X Y P k p q = blkN X Y k p q
  | 0, _, _ => ⟨rfl, fun _ _ => rfl⟩
  | k + 1, h, hr => by
    simp only [repN, Bool.or_eq_false_iff] at hr
    obtain ⟨a, b⟩ := mu_post k (fun j hj => h j (by omega)) hr.1
    have hp := h k (by omega)
    simp only [muC, muB]
    rw [if_pos hp, if_pos hp, b, hr.2, if_neg (by simp), a]
    exact ⟨rfl, fun p q => by simp only [blkN, b]⟩
theorem mu_rep {W H : Int} {X Y P : Nat → Int} (hP : ∀ k, P k = riP W H (X k) (Y k)) (hon : ∀ k, k < 4 → 0 ≤ X k ∧ X k < W ∧ 0 ≤ Y k ∧ Y k < H) : muC X Y P 4 = 4 ↔ muO P = true := by
  have hne : ∀ i j, i < 4 → j < 4 → 0 ≤ P j → ((X j = X i ∧ Y j = Y i) ↔ P i = P j) := fun i j hi hj h0 => by
    constructor
    · intro h; rw [hP, hP, h.1, h.2]
    · intro h
      have := riP_inj (hon j hj) (hon i hi) (by rw [← hP]; exact h0) (by rw [← hP, ← hP]; exact h.symm)
      exact this
  have hrep : (0 ≤ P 0 ∧ 0 ≤ P 1 ∧ 0 ≤ P 2 ∧ 0 ≤ P 3) → (repN X Y 4 = false ↔ P 0 ≠ P 1 ∧ P 0 ≠ P 2 ∧ P 1 ≠ P 2 ∧ P 0 ≠ P 3 ∧ P 1 ≠ P 3 ∧ P 2 ≠ P 3) := fun h0 => by
    simp only [repN, blkN, Bool.false_or, Bool.or_eq_false_iff, decide_eq_false_iff_not]
    rw [hne 0 1 (by omega) (by omega) (by omega), hne 0 2 (by omega) (by omega) (by omega), hne 1 2 (by omega) (by omega) (by omega), hne 0 3 (by omega) (by omega) (by omega), hne 1 3 (by omega) (by omega) (by omega), hne 2 3 (by omega) (by omega) (by omega)]
    constructor
    · rintro ⟨⟨a, b, c⟩, ⟨d, e⟩, f⟩
      simp_all
    · intro h
      simp_all
  unfold muO
  rw [decide_eq_true_eq]
  constructor
  · intro h
    obtain ⟨a, b, _, _⟩ := mu_pre 4 h
    have h0 : 0 ≤ P 0 ∧ 0 ≤ P 1 ∧ 0 ≤ P 2 ∧ 0 ≤ P 3 := ⟨a 0 (by omega), a 1 (by omega), a 2 (by omega), a 3 (by omega)⟩
    exact ⟨h0, (hrep h0).1 b⟩
  · rintro ⟨h0, h1⟩
    refine (mu_post 4 (fun j hj => ?_) ((hrep h0).2 h1)).1
    have : j = 0 ∨ j = 1 ∨ j = 2 ∨ j = 3 := by omega
    rcases this with rfl | rfl | rfl | rfl
    · exact h0.1
    · exact h0.2.1
    · exact h0.2.2.1
    · exact h0.2.2.2
def intsL (l : List Int) : List Go.Value := l.map fun x => .int .i64 x
theorem intsL_len (l : List Int) : (intsL l).length = l.length := by unfold intsL; simp
theorem intsL_snoc (l : List Int) (x : Int) : intsL (l ++ [x]) = intsL l ++ [.int .i64 x] := by unfold intsL; rw [List.map_append]; rfl
end Lay
namespace Go.Proofs.Ytkkcnhhfdicppaa
open Go.RowKit Lay
theorem own_ints4 {w : World} {b : Nat} {v : Value} {p0 p1 p2 p3 : Int} (h : w.ownsRow b 3 1 v 4 (intsL [p0, p1, p2, p3])) : ∃ g cap, v = .slice (some ⟨g, 0, none⟩) 4 cap ∧ b ≤ g ∧ g < w.heap.size ∧ w.cell? ⟨g, 0, none⟩ = some (.int .i64 p0) ∧ w.cell? ⟨g, 1, none⟩ = some (.int .i64 p1) ∧ w.cell? ⟨g, 2, none⟩ = some (.int .i64 p2) ∧ w.cell? ⟨g, 3, none⟩ = some (.int .i64 p3) := by
  obtain ⟨_, ⟨rfl, hn⟩ | ⟨g, cap, cur, rfl, hg, hb, _, _, hs, ht⟩⟩ := h
  · omega
  · have hget : ∀ (j : Nat) (u : Value), j < 4 → (intsL [p0, p1, p2, p3])[j]? = some u → w.cell? ⟨g, j, none⟩ = some u := fun j u hj hu => by
      refine cell_of_blk hb ?_
      rw [← ht, List.getElem?_take_of_lt (by omega), Array.getElem?_toList] at hu
      exact hu
    exact ⟨g, cap, rfl, hg, (Array.getElem?_eq_some_iff.1 hb).1, hget 0 _ (by omega) rfl, hget 1 _ (by omega) rfl, hget 2 _ (by omega) rfl, hget 3 _ (by omega) rfl⟩
set_option maxRecDepth 100000 in
set_option maxHeartbeats 2000000 in
theorem must1_any (p lo hi : Int) (b1 b2 : Nat) (w : World) (h1 : w.cell? ⟨b1, 0, none⟩ = some (.int .i64 lo)) (h2 : w.cell? ⟨b2, 0, none⟩ = some (.int .i64 hi)) :
    Calls Try.prog 44 #[.int .i64 p, .pointer (some ⟨b1, 0, none⟩), .pointer (some ⟨b2, 0, none⟩)] w fun e w' => e = .returned (.bool (btw lo hi p)) ∧ Below w.heap.size w w' := by
  by_cases k1 : lo < p
  case neg =>
    have HR : Hid (btw lo hi p = false) := Lib.hid (by unfold btw; rw [decide_eq_false k1]; rfl)
    go_enter Try.func44, Try.ntmps44
    go_wp2_with fail
    refine bodyPost_ret (v := .bool false) (by simp [results, Try.results44, go_sem]) rfl ⟨by rw [HR.out], by go_grown⟩
  by_cases k2 : p < hi
  case neg =>
    have HR : Hid (btw lo hi p = false) := Lib.hid (by unfold btw; rw [decide_eq_false k2]; simp)
    go_enter Try.func44, Try.ntmps44
    go_wp2_with fail
    refine bodyPost_ret (v := .bool false) (by simp [results, Try.results44, go_sem]) rfl ⟨by rw [HR.out], by go_grown⟩
  have HR : Hid (btw lo hi p = true) := Lib.hid (by unfold btw; rw [decide_eq_true k1, decide_eq_true k2]; rfl)
  go_enter Try.func44, Try.ntmps44
  go_wp2_with fail
  refine bodyPost_ret (v := .bool true) (by simp [results, Try.results44, go_sem]) rfl ⟨by rw [HR.out], by go_grown⟩
set_option maxRecDepth 100000 in
set_option maxHeartbeats 4000000 in
theorem pMust_grid (W H M B : Int) (n cp : Nat) (ao : Option Addr) (XB YB X Y : Nat → Int) (w : World) (hn : n ≤ 9223372036854775807) (hc : XYs w ao n XB YB) (hv : vaG W H M B n XB YB = false) :
    Calls Try.prog 14 #[.agg #[.int .i64 W, .int .i64 H, .int .i64 M, .int .i64 B, .slice ao n cp], .agg #[.int .i64 (X 0), .int .i64 (Y 0)], .agg #[.int .i64 (X 1), .int .i64 (Y 1)], .agg #[.int .i64 (X 2), .int .i64 (Y 2)], .agg #[.int .i64 (X 3), .int .i64 (Y 3)]] w fun e w' => e = .returned (.tuple #[.bool false, .int .i64 70]) ∧ Below w.heap.size w w' := by
  have HC := Lib.hid hc
  have HV := Lib.hid hv
  clear hc hv
  go_enter Try.func14, Try.ntmps14
  go_wp2_with fail
  refine (pRead_no W H M B n cp ao XB YB _ hn (HC.out.keep (by go_grown)) HV.out).mono ?_
  rintro e w1 ⟨rfl, hb⟩
  have HB1 : Hid (Below w.heap.size w w1) := Lib.hid (Below.trans (by go_grown) (hb.mono (by simp; omega)))
  have hz : w.heap.size ≤ w1.heap.size := HB1.out.size
  clear hb
  go_wp2_with fail
  refine bodyPost_ret (v := .tuple #[.bool false, .int .i64 70]) (by simp [results, Try.results14, go_sem]) rfl ⟨rfl, HB1.out.alloc hz _⟩
set_option maxRecDepth 100000 in
set_option maxHeartbeats 16000000 in
theorem pMust_ok (W H M B : Int) (n cp : Nat) (ao : Option Addr) (XB YB X Y P : Nat → Int) (w : World) (hc : XYs w ao n XB YB) (hv : vaG W H M B n XB YB = true) (hP : ∀ k, P k = riP W H (X k) (Y k)) (on ok : Bool) (hon : allOn W H X Y 4 = on) (hok : muO P = ok) :
    Calls Try.prog 14 #[.agg #[.int .i64 W, .int .i64 H, .int .i64 M, .int .i64 B, .slice ao n cp], .agg #[.int .i64 (X 0), .int .i64 (Y 0)], .agg #[.int .i64 (X 1), .int .i64 (Y 1)], .agg #[.int .i64 (X 2), .int .i64 (Y 2)], .agg #[.int .i64 (X 3), .int .i64 (Y 3)]] w fun e w' => e = .returned (.tuple #[.bool (muV on ok (muR P)), .int .i64 (muE on ok)]) ∧ Below w.heap.size w w' := by
  have hmf : ∀ (fn : Fn) (first cap : Array Value) (w : World), (Instr.makeFunc fn first cap).run Try.prog w = .ok (.func fn first cap) w := fun _ _ _ _ => rfl
  have hmm := @run_makeMap Try.prog
  obtain ⟨i0, hi, hi0, hi1, hi2⟩ := info_parts int_info
  have HI := Lib.hid (And.intro hi (And.intro hi0 (And.intro hi1 hi2)))
  clear hi hi0 hi1 hi2
  have HPP := Lib.hid hP
  have HON := Lib.hid hon
  have HOK := Lib.hid hok
  have HC := Lib.hid hc
  have HV := Lib.hid hv
  obtain ⟨hnum, _⟩ := vaG_num hv
  clear hc hv hP hon hok
  go_enter Try.func14, Try.ntmps14
  go_wp2_with fail
  refine (pRead_ok W H M B n cp ao XB YB _ (HC.out.keep (by go_grown)) HV.out).mono ?_
  rintro e w1 ⟨m, rfl, hm1, hbm, hb⟩
  obtain ⟨bG, hbG⟩ : ∃ b, b = w.heap.size := ⟨_, rfl⟩
  obtain ⟨bX0, hbX0⟩ : ∃ b, b = w.heap.size + 1 := ⟨_, rfl⟩
  obtain ⟨bX1, hbX1⟩ : ∃ b, b = w.heap.size + 1 + 1 := ⟨_, rfl⟩
  obtain ⟨bX2, hbX2⟩ : ∃ b, b = w.heap.size + 1 + 1 + 1 := ⟨_, rfl⟩
  obtain ⟨bX3, hbX3⟩ : ∃ b, b = w.heap.size + 1 + 1 + 1 + 1 := ⟨_, rfl⟩
  have hz1 : bX3 < w1.heap.size := by have h9 := hb.size; simp at h9; omega
  have KG1 : Hid (G5 w1 bG W H M B ao n cp) := Lib.hid ((hb.block _ (by simp; omega)).trans ((Below.heap_alloc _ _ _ (by simp; omega)).trans ((Below.heap_alloc _ _ _ (by simp; omega)).trans ((Below.heap_alloc _ _ _ (by simp; omega)).trans ((Below.heap_alloc _ _ _ (by simp; omega)).trans (by rw [hbG]; exact heap_alloc_new w _))))))
  have KX01 : Hid (w1.heap[bX0]? = some (.cells #[.int .i64 (X 0), .int .i64 (Y 0)] 26 (0, 0))) := Lib.hid ((hb.block _ (by simp; omega)).trans ((Below.heap_alloc _ _ _ (by simp; omega)).trans ((Below.heap_alloc _ _ _ (by simp; omega)).trans ((Below.heap_alloc _ _ _ (by simp; omega)).trans (by rw [hbX0]; have h := heap_alloc_new (w.alloc (.cells #[.int .i64 W, .int .i64 H, .int .i64 M, .int .i64 B, .slice ao n cp] 24)) (.cells #[.int .i64 (X 0), .int .i64 (Y 0)] 26); rwa [World.size_alloc] at h)))))
  have KX11 : Hid (w1.heap[bX1]? = some (.cells #[.int .i64 (X 1), .int .i64 (Y 1)] 26 (0, 0))) := Lib.hid ((hb.block _ (by simp; omega)).trans ((Below.heap_alloc _ _ _ (by simp; omega)).trans ((Below.heap_alloc _ _ _ (by simp; omega)).trans (by rw [hbX1]; have h := heap_alloc_new ((w.alloc (.cells #[.int .i64 W, .int .i64 H, .int .i64 M, .int .i64 B, .slice ao n cp] 24)).alloc (.cells #[.int .i64 (X 0), .int .i64 (Y 0)] 26)) (.cells #[.int .i64 (X 1), .int .i64 (Y 1)] 26); rwa [World.size_alloc, World.size_alloc] at h))))
  have KX21 : Hid (w1.heap[bX2]? = some (.cells #[.int .i64 (X 2), .int .i64 (Y 2)] 26 (0, 0))) := Lib.hid ((hb.block _ (by simp; omega)).trans ((Below.heap_alloc _ _ _ (by simp; omega)).trans (by rw [hbX2]; have h := heap_alloc_new (((w.alloc (.cells #[.int .i64 W, .int .i64 H, .int .i64 M, .int .i64 B, .slice ao n cp] 24)).alloc (.cells #[.int .i64 (X 0), .int .i64 (Y 0)] 26)).alloc (.cells #[.int .i64 (X 1), .int .i64 (Y 1)] 26)) (.cells #[.int .i64 (X 2), .int .i64 (Y 2)] 26); rwa [World.size_alloc, World.size_alloc, World.size_alloc] at h)))
  have KX31 : Hid (w1.heap[bX3]? = some (.cells #[.int .i64 (X 3), .int .i64 (Y 3)] 26 (0, 0))) := Lib.hid ((hb.block _ (by simp; omega)).trans (by rw [hbX3]; have h := heap_alloc_new ((((w.alloc (.cells #[.int .i64 W, .int .i64 H, .int .i64 M, .int .i64 B, .slice ao n cp] 24)).alloc (.cells #[.int .i64 (X 0), .int .i64 (Y 0)] 26)).alloc (.cells #[.int .i64 (X 1), .int .i64 (Y 1)] 26)).alloc (.cells #[.int .i64 (X 2), .int .i64 (Y 2)] 26)) (.cells #[.int .i64 (X 3), .int .i64 (Y 3)] 26); rwa [World.size_alloc, World.size_alloc, World.size_alloc, World.size_alloc] at h))
  have HB1 : Hid (Below w.heap.size w w1) := Lib.hid (Below.trans (by go_grown) (hb.mono (by simp; omega)))
  have hG0 : w.heap.size ≤ bG := by omega
  have h01 : bG < bX0 ∧ bX0 < bX1 ∧ bX1 < bX2 ∧ bX2 < bX3 := by omega
  obtain ⟨bB, hbB⟩ : ∃ b, b = w1.heap.size := ⟨_, rfl⟩
  have hxB : bX3 < bB := by omega
  obtain ⟨w2, hw2⟩ : ∃ z, z = w1.alloc (.cells #[.int .i64 W, .int .i64 H, .int .i64 M, .int .i64 B, .slice ao n cp, .map (some m)] 68) := ⟨_, rfl⟩
  obtain ⟨w3, hw3⟩ : ∃ z, z = w2.alloc (.map #[] 0) := ⟨_, rfl⟩
  obtain ⟨w4, hw4⟩ : ∃ z, z = w3.alloc (.cells #[.int .i64 (X 0), .int .i64 (Y 0), .int .i64 (X 1), .int .i64 (Y 1), .int .i64 (X 2), .int .i64 (Y 2), .int .i64 (X 3), .int .i64 (Y 3)] 26) := ⟨_, rfl⟩
  have hs2 : w2.heap.size = bB + 1 := by rw [hw2]; simp; omega
  have hs3 : w3.heap.size = bB + 1 + 1 := by rw [hw3]; simp; omega
  have hs4 : w4.heap.size = bB + 1 + 1 + 1 := by rw [hw4]; simp; omega
  have hc12 : Below w1.heap.size w1 w2 := by rw [hw2]; exact bal (Below.refl _ _) _
  have hc23 : Below w2.heap.size w2 w3 := by rw [hw3]; exact bal (Below.refl _ _) _
  have hc34 : Below w3.heap.size w3 w4 := by rw [hw4]; exact bal (Below.refl _ _) _
  have hc14 : Below w1.heap.size w1 w4 := (hc12.trans (hc23.mono (by omega))).trans (hc34.mono (by omega))
  have KB4 : Hid (w4.heap[bB]? = some (.cells #[.int .i64 W, .int .i64 H, .int .i64 M, .int .i64 B, .slice ao n cp, .map (some m)] 68 (0, 0))) := Lib.hid ((hc34.block _ (by omega)).trans ((hc23.block _ (by omega)).trans (by rw [hw2, hbB]; exact heap_alloc_new w1 _)))
  have KM4 : Hid (CMap w4 (bB + 1) 0 (muC X Y P 0) (muB X Y P 0)) := Lib.hid (by
    have h := (CMap.made w2).keep (w' := w4) ((hc34.block _ (by omega)).trans (by rw [hw3]))
    rwa [hs2] at h)
  have KE4 : Hid (w4.heap[bB + 1 + 1]? = some (.cells #[.int .i64 (X 0), .int .i64 (Y 0), .int .i64 (X 1), .int .i64 (Y 1), .int .i64 (X 2), .int .i64 (Y 2), .int .i64 (X 3), .int .i64 (Y 3)] 26 (0, 0))) := Lib.hid (by rw [hw4]; have h := heap_alloc_new w3 (.cells #[.int .i64 (X 0), .int .i64 (Y 0), .int .i64 (X 1), .int .i64 (Y 1), .int .i64 (X 2), .int .i64 (Y 2), .int .i64 (X 3), .int .i64 (Y 3)] 26); rwa [hs3] at h)
  have KG4 : Hid (G5 w4 bG W H M B ao n cp) := Lib.hid ((hc14.block _ (by omega)).trans KG1.out)
  have HB4 : Hid (Below w.heap.size w w4) := Lib.hid (HB1.out.trans (hc14.mono (by omega)))
  have H34 := Lib.hid (And.intro hw2 (And.intro hw3 hw4))
  have hc13 : Below w1.heap.size w1 w3 := hc12.trans (hc23.mono (by omega))
  obtain ⟨x00, x01, x10, x11, x20, x21, x30, x31⟩ : w3.cell? ⟨bX0, 0, none⟩ = some (.int .i64 (X 0)) ∧ w3.cell? ⟨bX0, 1, none⟩ = some (.int .i64 (Y 0)) ∧ w3.cell? ⟨bX1, 0, none⟩ = some (.int .i64 (X 1)) ∧ w3.cell? ⟨bX1, 1, none⟩ = some (.int .i64 (Y 1)) ∧ w3.cell? ⟨bX2, 0, none⟩ = some (.int .i64 (X 2)) ∧ w3.cell? ⟨bX2, 1, none⟩ = some (.int .i64 (Y 2)) ∧ w3.cell? ⟨bX3, 0, none⟩ = some (.int .i64 (X 3)) ∧ w3.cell? ⟨bX3, 1, none⟩ = some (.int .i64 (Y 3)) := ⟨cell_of_blk ((hc13.block _ (by omega)).trans KX01.out) rfl, cell_of_blk ((hc13.block _ (by omega)).trans KX01.out) rfl, cell_of_blk ((hc13.block _ (by omega)).trans KX11.out) rfl, cell_of_blk ((hc13.block _ (by omega)).trans KX11.out) rfl, cell_of_blk ((hc13.block _ (by omega)).trans KX21.out) rfl, cell_of_blk ((hc13.block _ (by omega)).trans KX21.out) rfl, cell_of_blk ((hc13.block _ (by omega)).trans KX31.out) rfl, cell_of_blk ((hc13.block _ (by omega)).trans KX31.out) rfl⟩
  have HBB := Lib.hid hbB
  have HS3 := Lib.hid (And.intro hs2 hs3)
  have HXS := Lib.hid (And.intro hbG (And.intro hbX0 (And.intro hbX1 (And.intro hbX2 hbX3))))
  clear hb hbm hm1 hbB hw2 hw3 hw4 hc12 hc23 hc34 hc14 hc13 hs2 hs3 KG1 KX01 KX11 KX21 KX31 HB1 hbG hbX0 hbX1 hbX2 hbX3
  go_upto_region 6 with fail
  rw [← H34.out.1, ← H34.out.2.1]
  try rw [← HBB.out]
  try rw [HS3.out.1]
  try rw [← HXS.out.2.2.2.2]
  try rw [← HXS.out.2.2.2.1]
  try rw [← HXS.out.2.2.1]
  try rw [← HXS.out.2.1]
  try rw [← HXS.out.1]
  go_upto_region 7 with fail
  rw [← H34.out.2.2]
  try rw [HS3.out.2]
  clear H34 HBB HXS HS3 x00 x01 x10 x11 x20 x21 x30 x31
  go_wp2_with fail
  go_loopg [14, 40] 4 (fun gg v14 v40 wr => ∃ k : Nat, v40 = .int .i64 k ∧ k ≤ 4 ∧ Hid (4 - k ≤ gg) ∧ Hid (∀ j, j < k → onB W H (X j) (Y j) = true) ∧ Hid (wr.ownsRow (bB + 1 + 1 + 1) 3 1 v14 (muP P k).length (intsL (muP P k))) ∧ Hid (CMap wr (bB + 1) k (muC X Y P k) (muB X Y P k)) ∧ Hid (G5 wr bG W H M B ao n cp) ∧ Hid (wr.heap[bB]? = some (.cells #[.int .i64 W, .int .i64 H, .int .i64 M, .int .i64 B, .slice ao n cp, .map (some m)] 68 (0, 0))) ∧ Hid (wr.heap[bB + 1 + 1]? = some (.cells #[.int .i64 (X 0), .int .i64 (Y 0), .int .i64 (X 1), .int .i64 (Y 1), .int .i64 (X 2), .int .i64 (Y 2), .int .i64 (X 3), .int .i64 (Y 3)] 26 (0, 0))) ∧ Hid (Below w.heap.size w wr) ∧ bB + 1 + 1 + 1 ≤ wr.heap.size)
  case atStart => exact ⟨0, rfl, by omega, Lib.hid (by omega), Lib.hid (fun j h => by omega), Lib.hid (World.ownsRow_nil _ _ _ _), KM4, KG4, KB4, KE4, HB4, by omega⟩
  case round =>
    clear KM4 KG4 KB4 KE4 HB4
    obtain ⟨k, rfl, hk, HG, HL, HO, KM, KG, KB, KE, HB, hz⟩ := hrel
    by_cases hlt : k < 4
    case pos =>
      have HGG := HG
      clear HG
      obtain ⟨x, hx⟩ : ∃ z, X k = z := ⟨_, rfl⟩
      obtain ⟨y, hy⟩ : ∃ z, Y k = z := ⟨_, rfl⟩
      obtain ⟨e0, e1⟩ : wr.cell? ⟨bB + 1 + 1, k * 2, none⟩ = some (.int .i64 x) ∧ wr.cell? ⟨bB + 1 + 1, k * 2 + 1, none⟩ = some (.int .i64 y) := by
        rw [← hx, ← hy]
        have h4 : k = 0 ∨ k = 1 ∨ k = 2 ∨ k = 3 := by omega
        rcases h4 with rfl | rfl | rfl | rfl <;> exact ⟨cell_of_blk KE.out rfl, cell_of_blk KE.out rfl⟩
      have HXY := Lib.hid (And.intro hx hy)
      clear hx hy
      obtain ⟨wq, hwq⟩ : ∃ z, z = wr.alloc (.cells #[.int .i64 x, .int .i64 y] 26) := ⟨_, rfl⟩
      obtain ⟨bq, hbq⟩ : ∃ z, z = wr.heap.size := ⟨_, rfl⟩
      have hcq : Below wr.heap.size wr wq := by rw [hwq]; exact bal (Below.refl _ _) _
      have hsq : bq < wq.heap.size := by rw [hwq]; simp; omega
      have KQq : Hid (wq.heap[bq]? = some (.cells #[.int .i64 x, .int .i64 y] 26 (0, 0))) := Lib.hid (by rw [hwq, hbq]; exact heap_alloc_new wr _)
      have HOq := Lib.hid (own_below' HO.out hcq)
      have KMq := Lib.hid (KM.out.keep (hcq.block _ (by omega)))
      have HBq : Hid (Below w.heap.size w wq) := Lib.hid (HB.out.trans (hcq.mono (by omega)))
      have KGq : Hid (G5 wq bG W H M B ao n cp) := Lib.hid ((hcq.block _ (by omega)).trans KG.out)
      have KBq : Hid (wq.heap[bB]? = some (.cells #[.int .i64 W, .int .i64 H, .int .i64 M, .int .i64 B, .slice ao n cp, .map (some m)] 68 (0, 0))) := Lib.hid ((hcq.block _ (by omega)).trans KB.out)
      have KEq : Hid (wq.heap[bB + 1 + 1]? = some (.cells #[.int .i64 (X 0), .int .i64 (Y 0), .int .i64 (X 1), .int .i64 (Y 1), .int .i64 (X 2), .int .i64 (Y 2), .int .i64 (X 3), .int .i64 (Y 3)] 26 (0, 0))) := Lib.hid ((hcq.block _ (by omega)).trans KE.out)
      have HWQ := Lib.hid hwq
      have HBQ := Lib.hid hbq
      have hbqB : bB + 1 + 1 + 1 ≤ bq := by omega
      have HLT : Hid (∀ j, u14.ownBlock = some j → j < bq) := Lib.hid (fun j hj => by have := (HO.out.lt j hj).2; omega)
      clear hcq hwq hbq HO KM KG KB KE HB
      go_upto_region 10 with fail
      rw [← HBQ.out, ← HWQ.out]
      clear HWQ HBQ e0 e1 hz
      obtain ⟨g0, g1, g2, g3, g4⟩ := G5.c KGq.out
      obtain ⟨x0, x1⟩ : wq.cell? ⟨bq, 0, none⟩ = some (.int .i64 x) ∧ wq.cell? ⟨bq, 1, none⟩ = some (.int .i64 y) := ⟨cell_of_blk KQq.out rfl, cell_of_blk KQq.out rfl⟩
      go_wp2_with fail
      refine (isOn_any W H M B x y _ rfl _).mono ?_
      by_cases hxy : onB W H x y = true
      case neg =>
        have hxy' : onB W H x y = false := by simpa using hxy
        have HOFF : Hid (on = false) := Lib.hid (by rw [← HON.out]; exact allOn_stop (k := k) (by rw [HXY.out.1, HXY.out.2]; exact hxy') 4 hlt)
        rw [hxy']
        rintro e w5 ⟨rfl, hb⟩
        have HB5 : Hid (Below w.heap.size w w5) := Lib.hid (HBq.out.trans (hb.mono HBq.out.size))
        clear hb hxy hxy' g0 g1 g2 g3 g4 x0 x1
        go_wp2_with fail
        refine bodyPost_ret (v := .tuple #[.bool false, .int .i64 72]) (by simp [results, Try.results14, go_sem]) rfl ⟨by rw [HOFF.out]; rfl, HB5.out⟩
      rw [hxy]
      have h0 := onB_iff.1 hxy
      have HL' : Hid (∀ j, j < k + 1 → onB W H (X j) (Y j) = true) := Lib.hid (fun j hj => by
        by_cases e : j = k
        · rw [e, HXY.out.1, HXY.out.2]; exact hxy
        · exact HL.out j (by omega))
      rintro e w5 ⟨rfl, hb⟩
      have HO5 := Lib.hid (own_below' HOq.out hb)
      have KM5 := Lib.hid (KMq.out.keep (hb.block _ (by omega)))
      have HB5 : Hid (Below w.heap.size w w5) := Lib.hid (HBq.out.trans (hb.mono HBq.out.size))
      have KQ5 : Hid (w5.heap[bq]? = some (.cells #[.int .i64 x, .int .i64 y] 26 (0, 0))) := Lib.hid ((hb.block _ (by omega)).trans KQq.out)
      have hs5 : bq < w5.heap.size := by have := hb.size; omega
      have KG5 : Hid (G5 w5 bG W H M B ao n cp) := Lib.hid ((hb.block _ (by omega)).trans KGq.out)
      have KB5 : Hid (w5.heap[bB]? = some (.cells #[.int .i64 W, .int .i64 H, .int .i64 M, .int .i64 B, .slice ao n cp, .map (some m)] 68 (0, 0))) := Lib.hid ((hb.block _ (by omega)).trans KBq.out)
      have KE5 : Hid (w5.heap[bB + 1 + 1]? = some (.cells #[.int .i64 (X 0), .int .i64 (Y 0), .int .i64 (X 1), .int .i64 (Y 1), .int .i64 (X 2), .int .i64 (Y 2), .int .i64 (X 3), .int .i64 (Y 3)] 26 (0, 0))) := Lib.hid ((hb.block _ (by omega)).trans KEq.out)
      clear hb hxy g0 g1 g2 g3 g4 x0 x1 HL KGq KBq KEq HOq KMq HBq KQq
      obtain ⟨x0, x1⟩ : w5.cell? ⟨bq, 0, none⟩ = some (.int .i64 x) ∧ w5.cell? ⟨bq, 1, none⟩ = some (.int .i64 y) := ⟨cell_of_blk KQ5.out rfl, cell_of_blk KQ5.out rfl⟩
      obtain ⟨c0, c1, c2, c3, c4, c5⟩ : w5.cell? ⟨bB, 0, none⟩ = some (.int .i64 W) ∧ w5.cell? ⟨bB, 1, none⟩ = some (.int .i64 H) ∧ w5.cell? ⟨bB, 2, none⟩ = some (.int .i64 M) ∧ w5.cell? ⟨bB, 3, none⟩ = some (.int .i64 B) ∧ w5.cell? ⟨bB, 4, none⟩ = some (.slice ao n cp) ∧ w5.cell? ⟨bB, 5, none⟩ = some (.map (some m)) := ⟨cell_of_blk KB5.out rfl, cell_of_blk KB5.out rfl, cell_of_blk KB5.out rfl, cell_of_blk KB5.out rfl, cell_of_blk KB5.out rfl, cell_of_blk KB5.out rfl⟩
      go_wp2_with fail
      refine (place_any W H M B x y n cp m ao _ (by omega) (by omega) (by omega) (by omega) (by omega) (by omega)).mono ?_
      have hpk : P k = riP W H x y := by rw [HPP.out, HXY.out.1, HXY.out.2]
      rw [← hpk]
      have hlow := riP_low h0
      rw [← hpk] at hlow
      by_cases hp : 0 ≤ P k
      case neg =>
        rw [Int.max_eq_right (by omega), decide_eq_false hp]
        rintro e w6 ⟨rfl, hb⟩
        have HO6 : Hid (w6.ownsRow (bB + 1 + 1 + 1) 3 1 u14 (muP P (k + 1)).length (intsL (muP P (k + 1)))) := Lib.hid (by simp only [muP]; rw [if_neg hp]; exact own_below' HO5.out hb)
        have KM6 : Hid (CMap w6 (bB + 1) (k + 1) (muC X Y P (k + 1)) (muB X Y P (k + 1))) := Lib.hid (by
          have h := KM5.out.keep (hb.block _ (by omega))
          simp only [muC, muB]; rw [if_neg hp, if_neg hp]
          obtain ⟨D, h1, h2⟩ := h
          exact ⟨D, h1.mono (by omega), h2⟩)
        have HB6 : Hid (Below w.heap.size w w6) := Lib.hid (HB5.out.trans (hb.mono HB5.out.size))
        have hs6 : bB + 1 + 1 + 1 ≤ w6.heap.size := by have := hb.size; omega
        have KG6 : Hid (G5 w6 bG W H M B ao n cp) := Lib.hid ((hb.block _ (by omega)).trans KG5.out)
        have KB6 : Hid (w6.heap[bB]? = some (.cells #[.int .i64 W, .int .i64 H, .int .i64 M, .int .i64 B, .slice ao n cp, .map (some m)] 68 (0, 0))) := Lib.hid ((hb.block _ (by omega)).trans KB5.out)
        have KE6 : Hid (w6.heap[bB + 1 + 1]? = some (.cells #[.int .i64 (X 0), .int .i64 (Y 0), .int .i64 (X 1), .int .i64 (Y 1), .int .i64 (X 2), .int .i64 (Y 2), .int .i64 (X 3), .int .i64 (Y 3)] 26 (0, 0))) := Lib.hid ((hb.block _ (by omega)).trans KE5.out)
        clear hb hpk hlow hp x0 x1 c0 c1 c2 c3 c4 c5 HO5 KM5 HB5 KQ5 KG5 KB5 KE5
        go_wp2_with fail
        go_roundg (4 - (k + 1))
        case measure => have := HGG.out; omega
        case rel => exact ⟨k + 1, by go_num, by omega, Lib.hid (Nat.le_refl _), HL', HO6, KM6, KG6, KB6, KE6, HB6, hs6⟩
      rw [Int.max_eq_left hp, decide_eq_true hp]
      obtain ⟨pv, hpv⟩ : ∃ z, P k = z := ⟨_, rfl⟩
      rw [hpv]
      rintro e w6 ⟨rfl, hb⟩
      have HO6 := Lib.hid (own_below' HO5.out hb)
      have KM6 := Lib.hid (KM5.out.keep (hb.block _ (by omega)))
      have HB6 : Hid (Below w.heap.size w w6) := Lib.hid (HB5.out.trans (hb.mono HB5.out.size))
      have KQ6 : Hid (w6.heap[bq]? = some (.cells #[.int .i64 x, .int .i64 y] 26 (0, 0))) := Lib.hid ((hb.block _ (by omega)).trans KQ5.out)
      have hs6 : bq < w6.heap.size := by have := hb.size; omega
      have HPV := Lib.hid (And.intro hpv hp)
      have KG6 : Hid (G5 w6 bG W H M B ao n cp) := Lib.hid ((hb.block _ (by omega)).trans KG5.out)
      have KB6 : Hid (w6.heap[bB]? = some (.cells #[.int .i64 W, .int .i64 H, .int .i64 M, .int .i64 B, .slice ao n cp, .map (some m)] 68 (0, 0))) := Lib.hid ((hb.block _ (by omega)).trans KB5.out)
      have KE6 : Hid (w6.heap[bB + 1 + 1]? = some (.cells #[.int .i64 (X 0), .int .i64 (Y 0), .int .i64 (X 1), .int .i64 (Y 1), .int .i64 (X 2), .int .i64 (Y 2), .int .i64 (X 3), .int .i64 (Y 3)] 26 (0, 0))) := Lib.hid ((hb.block _ (by omega)).trans KE5.out)
      have hmp := muP_len (P := P) k
      clear hb hpk hlow hp hpv x0 x1 c0 c1 c2 c3 c4 c5 HO5 KM5 HB5 KQ5 KG5 KB5 KE5
      go_upto_region 14 with fail
      refine wp_region_lit ?_
      refine wpList_step (fun K hK => ?_); go_simp; refine hK _ _ ?_; clear hK K
      refine wpList_step (fun K hK => ?_); go_simp; refine hK _ _ ?_; clear hK K
      refine wpList_step (fun K hK => ?_); go_simp; refine hK _ _ ?_; clear hK K
      have hNB : (w6.alloc (.cells #[.int .i64 pv] 3)).heap[w6.heap.size]? = some (.cells #[.int .i64 pv] 3 (0, 0)) := heap_alloc_new w6 _
      refine wpList_append_own _ rfl _ _ 34 rfl (bB + 1 + 1 + 1) 3 i0 _ 1 8 Try.underlying34 HI.out.1 HI.out.2.1 HI.out.2.2.1 HI.out.2.2.2 (by rfl) (by decide) u14 (muP P k).length (intsL (muP P k)) (by rfl) (HO6.out.alloc _) ⟨w6.heap.size, 0, none⟩ 1 1 [.int .i64 pv] (by rfl) rfl (fun j u hu => World.news_of_block (cs := #[.int .i64 pv]) hNB j u hu) (by intro u hu; simp only [List.mem_cons, List.not_mem_nil, or_false] at hu; subst hu; rfl) (by unfold maxLen; omega) (by omega) (by simp; omega) ?_
      intro v' w9 hown' hgrow hnil
      have hlb := HO6.out.lt
      have hmb : bB + 1 < bB + 1 + 1 + 1 := by omega
      have hk9 : ∀ j, j < bB + 1 + 1 + 1 → w9.heap[j]? = w6.heap[j]? := fun j hj => (hgrow.block _ (by simp; omega) (fun e => by have := (hlb _ e.symm).1; omega)).trans (Below.heap_alloc _ _ _ (by omega))
      have KQ9 : Hid (w9.heap[bq]? = some (.cells #[.int .i64 x, .int .i64 y] 26 (0, 0))) := Lib.hid ((hgrow.block _ (by simp; omega) (fun e => by have := HLT.out _ e.symm; omega)).trans ((Below.heap_alloc _ _ _ (by omega)).trans KQ6.out))
      have HO9 : Hid (w9.ownsRow (bB + 1 + 1 + 1) 3 1 v' (muP P (k + 1)).length (intsL (muP P (k + 1)))) := Lib.hid (by
        simp only [muP]
        rw [if_pos HPV.out.2, intsL_snoc, HPV.out.1, List.length_append]
        exact hown')
      have KM9 : CMap w9 (bB + 1) k (muC X Y P k) (muB X Y P k) := KM6.out.keep (hk9 _ hmb)
      have HB9 : Hid (Below w.heap.size w w9) := Lib.hid ((HB6.out.alloc (by omega) _).grown hgrow (by simp; omega) (fun j hj => by have := (hlb j hj).1; omega))
      have hs9 : bB + 1 + 1 + 1 ≤ w9.heap.size := by have := hgrow.size; simp at this; omega
      have KG9 : Hid (G5 w9 bG W H M B ao n cp) := Lib.hid ((hk9 _ (by omega)).trans KG6.out)
      have KB9 : Hid (w9.heap[bB]? = some (.cells #[.int .i64 W, .int .i64 H, .int .i64 M, .int .i64 B, .slice ao n cp, .map (some m)] 68 (0, 0))) := Lib.hid ((hk9 _ (by omega)).trans KB6.out)
      have KE9 : Hid (w9.heap[bB + 1 + 1]? = some (.cells #[.int .i64 (X 0), .int .i64 (Y 0), .int .i64 (X 1), .int .i64 (Y 1), .int .i64 (X 2), .int .i64 (Y 2), .int .i64 (X 3), .int .i64 (Y 3)] 26 (0, 0))) := Lib.hid ((hk9 _ (by omega)).trans KE6.out)
      clear hown' hgrow hnil hlb hk9 hNB HO6 KM6 HB6 KQ6 KG6 KB6 KE6 hmb
      obtain ⟨x0, x1⟩ : w9.cell? ⟨bq, 0, none⟩ = some (.int .i64 x) ∧ w9.cell? ⟨bq, 1, none⟩ = some (.int .i64 y) := ⟨cell_of_blk KQ9.out rfl, cell_of_blk KQ9.out rfl⟩
      obtain ⟨wA, hrun, hMA, hgA⟩ := KM9.put (by unfold maxLen; omega) (wf7 (x := x) (by omega) (by omega)) (wf7 (x := y) (by omega) (by omega))
      have KMA : Hid (CMap wA (bB + 1) (k + 1) (muC X Y P (k + 1)) (muB X Y P (k + 1))) := Lib.hid (by
        simp only [muC, muB]; rw [if_pos HPV.out.2, if_pos HPV.out.2, HXY.out.1, HXY.out.2]; exact hMA)
      have hkA : ∀ j, j < w9.heap.size → j ≠ bB + 1 → wA.heap[j]? = w9.heap[j]? := fun j hj hn => hgA.block _ hj (fun e => by cases e; exact hn rfl)
      have HOA : Hid (wA.ownsRow (bB + 1 + 1 + 1) 3 1 v' (muP P (k + 1)).length (intsL (muP P (k + 1)))) := Lib.hid (HO9.out.kept hgA (by
        cases hv : v'.ownBlock with
        | none => exact .inl rfl
        | some b => exact .inr (fun e => by cases e; have := (HO9.out.lt _ hv).1; omega)))
      have HBA : Hid (Below w.heap.size w wA) := Lib.hid (HB9.out.grown hgA (by omega) (fun j hj => by cases hj; omega))
      have hsA : bB + 1 + 1 + 1 ≤ wA.heap.size := by have := hgA.size; omega
      have KGA : Hid (G5 wA bG W H M B ao n cp) := Lib.hid ((hkA _ (by omega) (by omega)).trans KG9.out)
      have KBA : Hid (wA.heap[bB]? = some (.cells #[.int .i64 W, .int .i64 H, .int .i64 M, .int .i64 B, .slice ao n cp, .map (some m)] 68 (0, 0))) := Lib.hid ((hkA _ (by omega) (by omega)).trans KB9.out)
      have KEA : Hid (wA.heap[bB + 1 + 1]? = some (.cells #[.int .i64 (X 0), .int .i64 (Y 0), .int .i64 (X 1), .int .i64 (Y 1), .int .i64 (X 2), .int .i64 (Y 2), .int .i64 (X 3), .int .i64 (Y 3)] 26 (0, 0))) := Lib.hid ((hkA _ (by omega) (by omega)).trans KE9.out)
      clear hMA hgA hkA KM9 HO9 HB9 KQ9 KG9 KB9 KE9
      refine wpList_step (fun K hK => ?_); go_simp; refine hK _ _ ?_; clear hK K
      refine wpList_nil ?_
      go_wp2_with fail
      go_roundg (4 - (k + 1))
      case measure => have := HGG.out; omega
      case rel => exact ⟨k + 1, by go_num, by omega, Lib.hid (Nat.le_refl _), HL', HOA, KMA, KGA, KBA, KEA, HBA, hsA⟩
    obtain rfl : k = 4 := by omega
    have HON1 : Hid (on = true) := Lib.hid (by
      rw [← HON.out]
      simp only [allOn, HL.out 0 (by omega), HL.out 1 (by omega), HL.out 2 (by omega), HL.out 3 (by omega)]
      rfl)
    have hon4 : ∀ k, k < 4 → 0 ≤ X k ∧ X k < W ∧ 0 ≤ Y k ∧ Y k < H := fun k hk => onB_iff.1 (HL.out k hk)
    have hmr := mu_rep HPP.out hon4
    rw [HOK.out] at hmr
    have hcle := muC_le (X := X) (Y := Y) (P := P) 4
    obtain ⟨c, hc⟩ : ∃ z, muC X Y P 4 = z := ⟨_, rfl⟩
    have hlen := fun ty => KM.out.len ty
    rw [hc] at hmr hcle
    simp only [hc] at hlen
    have HCC := Lib.hid hc
    clear hc HL hon4 HG
    by_cases hc4 : c = 4
    case neg =>
      have HR : Hid (muV on ok (muR P) = false ∧ muE on ok = 2) := Lib.hid (by
        have : ok = false := by cases ok with | false => rfl | true => exact absurd (hmr.2 rfl) hc4
        rw [HON1.out, this]; exact ⟨rfl, rfl⟩)
      have hlt4 : c < 4 := by omega
      clear hmr hcle hc4
      go_wp2_with fail
      refine bodyPost_ret (v := .tuple #[.bool false, .int .i64 2]) (by simp [results, Try.results14, go_sem]) rfl ⟨by rw [HR.out.1, HR.out.2], HB.out⟩
    have HR : Hid (muV on ok (muR P) = muR P ∧ muE on ok = 0) := Lib.hid (by
      rw [HON1.out, hmr.1 hc4]; exact ⟨rfl, rfl⟩)
    have hpl : muP P 4 = [P 0, P 1, P 2, P 3] := (mu_pre (X := X) (Y := Y) (P := P) 4 (by rw [HCC.out, hc4])).2.2.1
    have hown := HO.out
    rw [hpl] at hown
    obtain ⟨g, cg, rfl, hg0, hgl, q0, q1, q2, q3⟩ := own_ints4 hown
    obtain ⟨p0, hp0⟩ : ∃ z, P 0 = z := ⟨_, rfl⟩
    obtain ⟨p1, hp1⟩ : ∃ z, P 1 = z := ⟨_, rfl⟩
    obtain ⟨p2, hp2⟩ : ∃ z, P 2 = z := ⟨_, rfl⟩
    obtain ⟨p3, hp3⟩ : ∃ z, P 3 = z := ⟨_, rfl⟩
    rw [hp0] at q0
    rw [hp1] at q1
    rw [hp2] at q2
    rw [hp3] at q3
    have HPV := Lib.hid (And.intro hp0 (And.intro hp1 (And.intro hp2 hp3)))
    subst hc4
    clear hp0 hp1 hp2 hp3 hown hpl hmr hcle HO HCC
    obtain ⟨wo, hwo⟩ : ∃ z, z = wr := ⟨wr, rfl⟩
    subst hwo
    obtain ⟨lo, hlo⟩ : ∃ z, (if p1 < p0 then p1 else p0) = z := ⟨_, rfl⟩
    obtain ⟨hi, hhi⟩ : ∃ z, (if p0 < p1 then p1 else p0) = z := ⟨_, rfl⟩
    have HMM : Hid (min p0 p1 = lo ∧ max p0 p1 = hi) := Lib.hid (by rw [← hlo, ← hhi]; constructor <;> split <;> omega)
    have HLH := Lib.hid (And.intro hlo hhi)
    clear hlo hhi
    go_upto_region 19 with fail
    go_cut [21, 22] (fun v21 v22 wx => ∃ b1 b2, v21 = .pointer (some ⟨b1, 0, none⟩) ∧ v22 = .pointer (some ⟨b2, 0, none⟩) ∧ wx.heap[b1]? = some (.cells #[.int .i64 lo] 3 (0, 0)) ∧ wx.heap[b2]? = some (.cells #[.int .i64 hi] 3 (0, 0)) ∧ Below wo.heap.size wo wx)
    case first =>
      have G0 : Hid (∀ w' : World, Below wo.heap.size wo w' → w'.cell? ⟨g, 0, none⟩ = some (.int .i64 p0) ∧ w'.cell? ⟨g, 1, none⟩ = some (.int .i64 p1)) := Lib.hid (fun w' hb => ⟨(World.cell?_of_block (hb.block _ hgl)).trans q0, (World.cell?_of_block (hb.block _ hgl)).trans q1⟩)
      have DI : Below wo.heap.size wo wo := Below.refl _ _
      have D0 : Below wo.heap.size wo wo.drew := DI.drew
      refine wp_region_held_drew (S := fun w' => w'.cell? ⟨g, 0, none⟩ = some (.int .i64 p0) ∧ w'.cell? ⟨g, 1, none⟩ = some (.int .i64 p1)) (by kernel_rfl) (G0.out _ D0) (fun hHeld => ?_)
      refine wpAnyH_take (i := 0) (oi := _) (v := ?_) rfl (by kernel_rfl) (by kernel_rfl) (by kernel_rfl) (fun _ _ _ h => h) (Or.inl ⟨by rfl, ?_⟩) (by assumption) ?_
      rotate_left
      · intro w hSw; obtain ⟨s0, s1⟩ := hSw; go_simp; (try with_reducible rfl)
      try change wpAnyH _ _ _ _ _ _ _ (Act.put _ (some 67) _) _
      try simp only [act_all]
      refine wpAnyH_take (i := 1) (oi := _) (v := ?_) rfl (by kernel_rfl) (by kernel_rfl) (by kernel_rfl) (fun _ _ _ h => h) (Or.inl ⟨by rfl, ?_⟩) (by assumption) ?_
      rotate_left
      · intro w hSw; obtain ⟨s0, s1⟩ := hSw; go_simp; (try with_reducible rfl)
      try change wpAnyH _ _ _ _ _ _ _ (Act.put _ (some 68) _) _
      try simp only [act_all]
      refine wpAnyH_take (i := 2) (oi := _) (v := ?_) rfl (by kernel_rfl) (by kernel_rfl) (by kernel_rfl) (fun _ _ _ h => h) (Or.inl ⟨by rfl, ?_⟩) (by assumption) ?_
      rotate_left
      · intro w hSw; obtain ⟨s0, s1⟩ := hSw; go_simp; (try with_reducible rfl)
      try change wpAnyH _ _ _ _ _ _ _ (Act.put _ (some 69) _) _
      try simp only [act_all]
      refine wpAnyH_take (i := 3) (oi := _) (v := ?_) rfl (by kernel_rfl) (by kernel_rfl) (by kernel_rfl) (fun _ _ _ h => h) (Or.inl ⟨by rfl, ?_⟩) (by assumption) ?_
      rotate_left
      · intro w hSw; obtain ⟨s0, s1⟩ := hSw; go_simp; (try with_reducible rfl)
      try change wpAnyH _ _ _ _ _ _ _ (Act.put _ (some 70) _) _
      try simp only [act_all]
      refine wpAnyH_take (i := 4) (oi := _) (v := ?_) rfl (by kernel_rfl) (by kernel_rfl) (by kernel_rfl) (fun _ _ _ h => h) (Or.inl ⟨by rfl, ?_⟩) (by assumption) ?_
      rotate_left
      · intro w hSw; obtain ⟨s0, s1⟩ := hSw; go_simp; (try with_reducible rfl)
      try change wpAnyH _ _ _ _ _ _ _ (Act.put _ (some 71) _) _
      try simp only [act_all]
      refine wpAnyH_take (i := 5) (oi := _) (v := ?_) rfl (by kernel_rfl) (by kernel_rfl) (by kernel_rfl) (fun _ _ _ h => h) (Or.inl ⟨by rfl, ?_⟩) (by assumption) ?_
      rotate_left
      · intro w hSw; obtain ⟨s0, s1⟩ := hSw; go_simp; (try with_reducible rfl)
      try change wpAnyH _ _ _ _ _ _ _ (Act.put _ (some 72) _) _
      try simp only [act_all]
      refine wpAnyH_take (i := 6) (oi := _) (v := ?_) rfl (by kernel_rfl) (by kernel_rfl) (by kernel_rfl) (fun _ _ _ h => h) (Or.inl ⟨by rfl, ?_⟩) (by assumption) ?_
      rotate_left
      · intro w hSw; obtain ⟨s0, s1⟩ := hSw; go_simp; (try with_reducible rfl)
      try change wpAnyH _ _ _ _ _ _ _ (Act.put _ (some 73) _) _
      try simp only [act_all]
      rw [HLH.out.1]
      refine wpAnyH_take (i := 7) (oi := _) (v := ?_) rfl (by kernel_rfl) (by kernel_rfl) (by kernel_rfl) (fun _ _ _ h => h) (Or.inl ⟨by rfl, ?_⟩) (by assumption) ?_
      rotate_left
      · intro w hSw; obtain ⟨s0, s1⟩ := hSw; go_simp; (try with_reducible rfl)
      try change wpAnyH _ _ _ _ _ _ _ (Act.put _ (some 74) _) _
      try simp only [act_all]
      refine wpAnyH_take (i := 8) (oi := _) (v := ?_) rfl (by kernel_rfl) (by kernel_rfl) (by kernel_rfl) (fun _ _ _ h => h) (Or.inl ⟨by rfl, ?_⟩) (by assumption) ?_
      rotate_left
      · intro w hSw; obtain ⟨s0, s1⟩ := hSw; go_simp; (try with_reducible rfl)
      try change wpAnyH _ _ _ _ _ _ _ (Act.put _ (some 75) _) _
      try simp only [act_all]
      refine wpAnyH_take (i := 9) (oi := _) (v := ?_) rfl (by kernel_rfl) (by kernel_rfl) (by kernel_rfl) (fun _ _ _ h => h) (Or.inl ⟨by rfl, ?_⟩) (by assumption) ?_
      rotate_left
      · intro w hSw; obtain ⟨s0, s1⟩ := hSw; go_simp; (try with_reducible rfl)
      try change wpAnyH _ _ _ _ _ _ _ (Act.put _ (some 76) _) _
      try simp only [act_all]
      refine wpAnyH_take (i := 10) (oi := _) (v := ?_) rfl (by kernel_rfl) (by kernel_rfl) (by kernel_rfl) (fun _ _ _ h => h) (Or.inl ⟨by rfl, ?_⟩) (by assumption) ?_
      rotate_left
      · intro w hSw; obtain ⟨s0, s1⟩ := hSw; go_simp; (try with_reducible rfl)
      try change wpAnyH _ _ _ _ _ _ _ (Act.put _ (some 77) _) _
      try simp only [act_all]
      refine wpAnyH_take (i := 11) (oi := _) (v := ?_) rfl (by kernel_rfl) (by kernel_rfl) (by kernel_rfl) (fun _ _ _ h => h) (Or.inl ⟨by rfl, ?_⟩) (by assumption) ?_
      rotate_left
      · intro w hSw; obtain ⟨s0, s1⟩ := hSw; go_simp; (try with_reducible rfl)
      try change wpAnyH _ _ _ _ _ _ _ (Act.put _ (some 78) _) _
      try simp only [act_all]
      refine wpAnyH_take (i := 12) (oi := _) (v := ?_) rfl (by kernel_rfl) (by kernel_rfl) (by kernel_rfl) (fun _ _ _ h => h) (Or.inl ⟨by rfl, ?_⟩) (by assumption) ?_
      rotate_left
      · intro w hSw; obtain ⟨s0, s1⟩ := hSw; go_simp; (try with_reducible rfl)
      try change wpAnyH _ _ _ _ _ _ _ (Act.put _ (some 79) _) _
      try simp only [act_all]
      refine wpAnyH_take (i := 13) (oi := _) (v := ?_) rfl (by kernel_rfl) (by kernel_rfl) (by kernel_rfl) (fun _ _ _ h => h) (Or.inl ⟨by rfl, ?_⟩) (by assumption) ?_
      rotate_left
      · intro w hSw; obtain ⟨s0, s1⟩ := hSw; go_simp; (try with_reducible rfl)
      try change wpAnyH _ _ _ _ _ _ _ (Act.put _ (some 80) _) _
      try simp only [act_all]
      rw [HLH.out.2]
      refine wpAnyH_ready (rs := [14, 15]) (by kernel_rfl) (by simp) ?_
      refine AllReadyH.cons (o := _) rfl (fun K hK => ?_) ?_
      ·
        go_simp
        have D1 : Below wo.heap.size wo (wo.alloc (Obj.cells #[.int .i64 0] 3)) := (DI.alloc (by simp) _)
        have E1 : Below wo.heap.size wo (wo.alloc (Obj.cells #[.int .i64 0] 3)).drew := D1.drew
        try clear hHeld
        refine hK.out _ _ (G0.out _ E1) (fun hHeld => ?_)
        clear hK K
        try simp only [act_all]
        refine wpAnyH_ready (rs := [15]) (by kernel_rfl) (by simp) ?_
        refine AllReadyH.cons (o := _) rfl (fun K hK => ?_) AllReadyH.nil
        go_simp
        have D2 : Below wo.heap.size wo ((wo.alloc (Obj.cells #[.int .i64 0] 3)).alloc (Obj.cells #[.int .i64 0] 3)) := ((DI.alloc (by simp) _).alloc (by simp) _)
        have E2 : Below wo.heap.size wo ((wo.alloc (Obj.cells #[.int .i64 0] 3)).alloc (Obj.cells #[.int .i64 0] 3)).drew := D2.drew
        try clear hHeld
        refine hK.out _ _ (G0.out _ E2) (fun hHeld => ?_)
        clear hK K
        try simp only [act_all]
        refine wpAnyH_ready (rs := [16]) (by kernel_rfl) (by simp) ?_
        refine AllReadyH.cons (o := _) rfl (fun K hK => ?_) AllReadyH.nil
        go_simp
        have D3 : Below wo.heap.size wo ((wo.alloc (Obj.cells #[.int .i64 lo] 3)).alloc (Obj.cells #[.int .i64 0] 3)) := ((DI.alloc (by simp) _).alloc (by simp) _)
        have E3 : Below wo.heap.size wo ((wo.alloc (Obj.cells #[.int .i64 lo] 3)).alloc (Obj.cells #[.int .i64 0] 3)).drew := D3.drew
        try clear hHeld
        refine hK.out _ _ (G0.out _ E3) (fun hHeld => ?_)
        clear hK K
        try simp only [act_all]
        refine wpAnyH_ready (rs := [17]) (by kernel_rfl) (by simp) ?_
        refine AllReadyH.cons (o := _) rfl (fun K hK => ?_) AllReadyH.nil
        go_simp
        have D4 : Below wo.heap.size wo ((wo.alloc (Obj.cells #[.int .i64 lo] 3)).alloc (Obj.cells #[.int .i64 hi] 3)) := ((DI.alloc (by simp) _).alloc (by simp) _)
        have E4 : Below wo.heap.size wo ((wo.alloc (Obj.cells #[.int .i64 lo] 3)).alloc (Obj.cells #[.int .i64 hi] 3)).drew := D4.drew
        try clear hHeld
        refine hK.out _ _ (G0.out _ E4) (fun hHeld => ?_)
        clear hK K
        try simp only [act_all]
        refine wpAnyH_done (by kernel_rfl) ?_ _
        clear hHeld
        have k1 : ((wo.alloc (Obj.cells #[.int .i64 lo] 3)).alloc (Obj.cells #[.int .i64 hi] 3)).heap[wo.heap.size + 1]? = some (.cells #[.int .i64 hi] 3 (0, 0)) := by have h := heap_alloc_new (wo.alloc (Obj.cells #[.int .i64 lo] 3)) (.cells #[.int .i64 hi] 3); rwa [World.size_alloc] at h
        have k0 : ((wo.alloc (Obj.cells #[.int .i64 lo] 3)).alloc (Obj.cells #[.int .i64 hi] 3)).heap[wo.heap.size]? = some (.cells #[.int .i64 lo] 3 (0, 0)) := (Below.heap_alloc _ _ _ (by simp)).trans (heap_alloc_new wo _)
        go_wp2_with fail
        go_meet
        exact ⟨_, _, rfl, rfl, k0, k1, D4.drew⟩
      refine AllReadyH.cons (o := _) rfl (fun K hK => ?_) AllReadyH.nil
      go_simp
      have D5 : Below wo.heap.size wo (wo.alloc (Obj.cells #[.int .i64 0] 3)) := (DI.alloc (by simp) _)
      have E5 : Below wo.heap.size wo (wo.alloc (Obj.cells #[.int .i64 0] 3)).drew := D5.drew
      try clear hHeld
      refine hK.out _ _ (G0.out _ E5) (fun hHeld => ?_)
      clear hK K
      try simp only [act_all]
      refine wpAnyH_ready (rs := [14]) (by kernel_rfl) (by simp) ?_
      refine AllReadyH.cons (o := _) rfl (fun K hK => ?_) AllReadyH.nil
      go_simp
      have D6 : Below wo.heap.size wo ((wo.alloc (Obj.cells #[.int .i64 0] 3)).alloc (Obj.cells #[.int .i64 0] 3)) := ((DI.alloc (by simp) _).alloc (by simp) _)
      have E6 : Below wo.heap.size wo ((wo.alloc (Obj.cells #[.int .i64 0] 3)).alloc (Obj.cells #[.int .i64 0] 3)).drew := D6.drew
      try clear hHeld
      refine hK.out _ _ (G0.out _ E6) (fun hHeld => ?_)
      clear hK K
      try simp only [act_all]
      refine wpAnyH_ready (rs := [16]) (by kernel_rfl) (by simp) ?_
      refine AllReadyH.cons (o := _) rfl (fun K hK => ?_) AllReadyH.nil
      go_simp
      have D7 : Below wo.heap.size wo ((wo.alloc (Obj.cells #[.int .i64 0] 3)).alloc (Obj.cells #[.int .i64 lo] 3)) := ((DI.alloc (by simp) _).alloc (by simp) _)
      have E7 : Below wo.heap.size wo ((wo.alloc (Obj.cells #[.int .i64 0] 3)).alloc (Obj.cells #[.int .i64 lo] 3)).drew := D7.drew
      try clear hHeld
      refine hK.out _ _ (G0.out _ E7) (fun hHeld => ?_)
      clear hK K
      try simp only [act_all]
      refine wpAnyH_ready (rs := [17]) (by kernel_rfl) (by simp) ?_
      refine AllReadyH.cons (o := _) rfl (fun K hK => ?_) AllReadyH.nil
      go_simp
      have D8 : Below wo.heap.size wo ((wo.alloc (Obj.cells #[.int .i64 hi] 3)).alloc (Obj.cells #[.int .i64 lo] 3)) := ((DI.alloc (by simp) _).alloc (by simp) _)
      have E8 : Below wo.heap.size wo ((wo.alloc (Obj.cells #[.int .i64 hi] 3)).alloc (Obj.cells #[.int .i64 lo] 3)).drew := D8.drew
      try clear hHeld
      refine hK.out _ _ (G0.out _ E8) (fun hHeld => ?_)
      clear hK K
      try simp only [act_all]
      refine wpAnyH_done (by kernel_rfl) ?_ _
      clear hHeld
      have k1 : ((wo.alloc (Obj.cells #[.int .i64 hi] 3)).alloc (Obj.cells #[.int .i64 lo] 3)).heap[wo.heap.size + 1]? = some (.cells #[.int .i64 lo] 3 (0, 0)) := by have h := heap_alloc_new (wo.alloc (Obj.cells #[.int .i64 hi] 3)) (.cells #[.int .i64 lo] 3); rwa [World.size_alloc] at h
      have k0 : ((wo.alloc (Obj.cells #[.int .i64 hi] 3)).alloc (Obj.cells #[.int .i64 lo] 3)).heap[wo.heap.size]? = some (.cells #[.int .i64 hi] 3 (0, 0)) := (Below.heap_alloc _ _ _ (by simp)).trans (heap_alloc_new wo _)
      go_wp2_with fail
      go_meet
      exact ⟨_, _, rfl, rfl, k1, k0, D8.drew⟩
    case rest =>
      obtain ⟨b1, b2, rfl, rfl, hk1, hk2, hbx⟩ := hcut
      obtain ⟨C, hC⟩ : ∃ z, z = wc := ⟨wc, rfl⟩
      subst hC
      have HBC : Hid (Below w.heap.size w C) := Lib.hid (HB.out.trans (hbx.mono HB.out.size))
      have hl1 : b1 < C.heap.size := (Array.getElem?_eq_some_iff.1 hk1).1
      have hl2 : b2 < C.heap.size := (Array.getElem?_eq_some_iff.1 hk2).1
      have hlg : g < C.heap.size := by have := hbx.size; omega
      have c2 : C.cell? ⟨g, 2, none⟩ = some (.int .i64 p2) := (World.cell?_of_block (hbx.block _ hgl)).trans q2
      have c3 : C.cell? ⟨g, 3, none⟩ = some (.int .i64 p3) := (World.cell?_of_block (hbx.block _ hgl)).trans q3
      clear hbx q0 q1 q2 q3 hlen hgl
      go_upto_region 21 with fail
      have G0 : Hid (∀ w' : World, Below C.heap.size C w' → w'.cell? ⟨g, 2, none⟩ = some (.int .i64 p2) ∧ w'.cell? ⟨g, 3, none⟩ = some (.int .i64 p3) ∧ w'.cell? ⟨b1, 0, none⟩ = some (.int .i64 lo) ∧ w'.cell? ⟨b2, 0, none⟩ = some (.int .i64 hi)) := Lib.hid (fun w' hb => ⟨(World.cell?_of_block (hb.block _ hlg)).trans c2, (World.cell?_of_block (hb.block _ hlg)).trans c3, cell_of_blk ((hb.block _ hl1).trans hk1) rfl, cell_of_blk ((hb.block _ hl2).trans hk2) rfl⟩)
      have D0 : Below C.heap.size C C.drew := (Below.refl _ _).drew
      refine wp_region_held_drew (S := fun w' => w'.cell? ⟨g, 2, none⟩ = some (.int .i64 p2) ∧ w'.cell? ⟨g, 3, none⟩ = some (.int .i64 p3) ∧ w'.cell? ⟨b1, 0, none⟩ = some (.int .i64 lo) ∧ w'.cell? ⟨b2, 0, none⟩ = some (.int .i64 hi)) (by kernel_rfl) (G0.out _ D0) (fun hHeld => ?_)
      refine wpAnyH_take (i := 0) (oi := _) (v := ?_) rfl (by kernel_rfl) (by kernel_rfl) (by kernel_rfl) (fun _ _ _ h => h) (Or.inl ⟨by rfl, ?_⟩) (by assumption) ?_
      rotate_left
      · intro w hSw; obtain ⟨s0, s1, s2, s3⟩ := hSw; go_simp; (try with_reducible rfl)
      try change wpAnyH _ _ _ _ _ _ _ (Act.put _ (some 82) _) _
      try simp only [act_all]
      refine wpAnyH_take (i := 1) (oi := _) (v := ?_) rfl (by kernel_rfl) (by kernel_rfl) (by kernel_rfl) (fun _ _ _ h => h) (Or.inl ⟨by rfl, ?_⟩) (by assumption) ?_
      rotate_left
      · intro w hSw; obtain ⟨s0, s1, s2, s3⟩ := hSw; go_simp; (try with_reducible rfl)
      try change wpAnyH _ _ _ _ _ _ _ (Act.put _ (some 83) _) _
      try simp only [act_all]
      refine wpAnyH_take (i := 2) (oi := _) (v := ?_) rfl (by kernel_rfl) (by kernel_rfl) (by kernel_rfl) (fun _ _ _ h => h) (Or.inl ⟨by rfl, ?_⟩) (by assumption) ?_
      rotate_left
      · intro w hSw; obtain ⟨s0, s1, s2, s3⟩ := hSw; go_simp; (try with_reducible rfl)
      try change wpAnyH _ _ _ _ _ _ _ (Act.put _ (some 84) _) _
      try simp only [act_all]
      refine wpAnyH_take (i := 3) (oi := _) (v := ?_) rfl (by kernel_rfl) (by kernel_rfl) (by kernel_rfl) (fun _ _ _ h => h) (Or.inl ⟨by rfl, ?_⟩) (by assumption) ?_
      rotate_left
      · intro w hSw; obtain ⟨s0, s1, s2, s3⟩ := hSw; go_simp; (try with_reducible rfl)
      try change wpAnyH _ _ _ _ _ _ _ (Act.put _ (some 85) _) _
      try simp only [act_all]
      refine wpAnyH_take (i := 5) (oi := _) (v := ?_) rfl (by kernel_rfl) (by kernel_rfl) (by kernel_rfl) (fun _ _ _ h => h) (Or.inl ⟨by rfl, ?_⟩) (by assumption) ?_
      rotate_left
      · intro w hSw; obtain ⟨s0, s1, s2, s3⟩ := hSw; go_simp; (try with_reducible rfl)
      try change wpAnyH _ _ _ _ _ _ _ (Act.put _ (some 87) _) _
      try simp only [act_all]
      refine wpAnyH_take (i := 6) (oi := _) (v := ?_) rfl (by kernel_rfl) (by kernel_rfl) (by kernel_rfl) (fun _ _ _ h => h) (Or.inl ⟨by rfl, ?_⟩) (by assumption) ?_
      rotate_left
      · intro w hSw; obtain ⟨s0, s1, s2, s3⟩ := hSw; go_simp; (try with_reducible rfl)
      try change wpAnyH _ _ _ _ _ _ _ (Act.put _ (some 88) _) _
      try simp only [act_all]
      refine wpAnyH_take (i := 7) (oi := _) (v := ?_) rfl (by kernel_rfl) (by kernel_rfl) (by kernel_rfl) (fun _ _ _ h => h) (Or.inl ⟨by rfl, ?_⟩) (by assumption) ?_
      rotate_left
      · intro w hSw; obtain ⟨s0, s1, s2, s3⟩ := hSw; go_simp; (try with_reducible rfl)
      try change wpAnyH _ _ _ _ _ _ _ (Act.put _ (some 89) _) _
      try simp only [act_all]
      refine wpAnyH_take (i := 8) (oi := _) (v := ?_) rfl (by kernel_rfl) (by kernel_rfl) (by kernel_rfl) (fun _ _ _ h => h) (Or.inl ⟨by rfl, ?_⟩) (by assumption) ?_
      rotate_left
      · intro w hSw; obtain ⟨s0, s1, s2, s3⟩ := hSw; go_simp; (try with_reducible rfl)
      try change wpAnyH _ _ _ _ _ _ _ (Act.put _ (some 90) _) _
      try simp only [act_all]
      refine wpAnyH_ready (rs := [4]) (by kernel_rfl) (by simp) ?_
      refine AllReadyH.cons (o := _) rfl (fun K hK => ?_) AllReadyH.nil
      go_simp
      refine (must1_any p2 lo hi b1 b2 _ (G0.out _ D0).2.2.1 (G0.out _ D0).2.2.2).mono ?_
      rintro e_ v1 ⟨rfl, hb⟩
      have D1 : Below C.heap.size C v1 := D0.trans (hb.mono D0.size)
      clear hb hHeld
      refine hK.out _ _ (G0.out _ D1) (fun hHeld => ?_)
      clear hK K
      try simp only [act_all]
      refine wpAnyH_ready (rs := [9]) (by kernel_rfl) (by simp) ?_
      refine AllReadyH.cons (o := _) rfl (fun K hK => ?_) AllReadyH.nil
      go_simp
      refine (must1_any p3 lo hi b1 b2 _ (G0.out _ D1).2.2.1 (G0.out _ D1).2.2.2).mono ?_
      rintro e_ v2 ⟨rfl, hb⟩
      have D2 : Below C.heap.size C v2 := D1.trans (hb.mono D1.size)
      clear hb hHeld
      refine hK.out _ _ (G0.out _ D2) (fun hHeld => ?_)
      clear hK K
      try simp only [act_all]
      refine wpAnyH_take (i := 10) (oi := _) (v := ?_) rfl (by kernel_rfl) (by kernel_rfl) (by kernel_rfl) (fun _ _ _ h => h) (Or.inl ⟨by rfl, ?_⟩) (by assumption) ?_
      rotate_left
      · intro w hSw; obtain ⟨s0, s1, s2, s3⟩ := hSw; go_simp; (try with_reducible rfl)
      try change wpAnyH _ _ _ _ _ _ _ (Act.put _ (some 92) _) _
      try simp only [act_all]
      refine wpAnyH_take (i := 11) (oi := _) (v := ?_) rfl (by kernel_rfl) (by kernel_rfl) (by kernel_rfl) (fun _ _ _ h => h) (Or.inl ⟨by rfl, ?_⟩) (by assumption) ?_
      rotate_left
      · intro w hSw; obtain ⟨s0, s1, s2, s3⟩ := hSw; go_simp; (try with_reducible rfl)
      try change wpAnyH _ _ _ _ _ _ _ (Act.put _ (some 10) _) _
      try simp only [act_all]
      refine wpAnyH_take (i := 12) (oi := _) (v := ?_) rfl (by kernel_rfl) (by kernel_rfl) (by kernel_rfl) (fun _ _ _ h => h) (Or.inl ⟨by rfl, ?_⟩) (by assumption) ?_
      rotate_left
      · intro w hSw; obtain ⟨s0, s1, s2, s3⟩ := hSw; go_simp; (try with_reducible rfl)
      try change wpAnyH _ _ _ _ _ _ _ (Act.put _ (some 11) _) _
      try simp only [act_all]
      refine wpAnyH_done (by kernel_rfl) ?_ _
      clear hHeld
      have HZ : Hid (Below w.heap.size w _) := Lib.hid (HBC.out.trans (D2.mono HBC.out.size))
      clear HBC G0 D0
      go_wp2_with fail
      refine bodyPost_ret (v := .tuple #[.bool (btw lo hi p2 != btw lo hi p3), .int .i64 0]) (by simp [results, Try.results14, go_sem]; cases btw lo hi p2 <;> cases btw lo hi p3 <;> rfl) rfl ⟨?_, HZ.out⟩
      rw [HR.out.1, HR.out.2]
      unfold muR
      rw [HPV.out.1, HPV.out.2.1, HPV.out.2.2.1, HPV.out.2.2.2, HMM.out.1, HMM.out.2]
end Go.Proofs.Ytkkcnhhfdicppaa
