import Derived.Test.YtfilofnkiocbeaaBg8
namespace Go.Proofs.Ytfilofnkiocbeaa
open Go.RowKit Ben
set_option maxRecDepth 100000 in
set_option maxHeartbeats 16000000 in
theorem follow_any (s : Nat → Bool) : ∀ (k : Nat), k ≤ 3 → ∀ (g o cap b i : Nat) (w : World), cn k ≤ cap → cap ≤ 9223372036854775807 → b + cn k ≤ 80 → i < sz k → Unw w g o (cn k) b s → Calls Try.prog 66 #[.int .i64 (sz k : Nat), .slice (some ⟨g, o, none⟩) (cn k) cap, .int .i64 i] w fun e w' => FolR w.heap.size w' e s k b i ∧ Below w.heap.size w w' := by
  intro k
  induction k with
  | zero => intro _ g o cap b i w hc hm hb hi hU; exact follow_zero g o cap b i s w hc hm hb hi hU
  | succ k ih => intro hk g o cap b i w hc hm hb hi hU; exact follow_succ s k (by omega) (ih (by omega)) g o cap b i w hc hm hb hi hU
/-- What comes back of out. -/
def OutR (B : Nat) (w : World) (e : Ending) (s : Nat → Bool) (k b i j : Nat) (xs : List Value) : Prop := ∃ V, e = .returned (.tuple #[.int .i64 (out s k b i : Nat), V]) ∧ w.ownsRow B 3 1 V (j + dp k) (xs ++ cellsN (met s k b i))
set_option maxRecDepth 100000 in
set_option maxHeartbeats 8000000 in
theorem rOut_zero (s : Nat → Bool) (B m cap b0 o0 b i j : Nat) (bI : Int) (V : Value) (xs : List Value) (w : World) (hbI : bI = (b : Nat)) (hB : B ≤ w.heap.size) (_hm : m ≤ 80) (hS : ∀ q, q < m → w.cell? ⟨b0, o0 + q, none⟩ = some (.bool (s q))) (hb0 : b0 < B) (hb : b + cn 0 ≤ m) (hi : i < sz 0) (hj : j + dp 0 ≤ 100) (hO : w.ownsRow B 3 1 V j xs) :
    Calls Try.prog 55 #[.int .i64 (sz 0 : Nat), .slice (some ⟨b0, o0, none⟩) m cap, .int .i64 i, .int .i64 bI, V] w fun e w' => OutR B w' e s 0 b i j xs ∧ Below B w w' := by
  obtain ⟨i0, hi0, hz0, hz1, hz2⟩ := info_parts infoInt
  have HI := Lib.hid (And.intro hi0 (And.intro hz0 (And.intro hz1 hz2)))
  clear hi0 hz0 hz1 hz2
  subst hbI
  have hb1 : b < m := by have : cn 0 = 1 := rfl; omega
  have g0 := hS b hb1
  have HO := Lib.hid hO
  obtain ⟨t, ht⟩ : ∃ t, s b = t := ⟨_, rfl⟩
  rw [ht] at g0
  have hi2 : i = 0 ∨ i = 1 := by have : sz 0 = 2 := rfl; omega
  have hj' : j ≤ 99 := by have : dp 0 = 1 := rfl; omega
  have hbi : (b : Int) < (m : Int) := by omega
  have hltk := hO.lt
  have HOUT : Hid (out s 0 b i = fl t i) := Lib.hid (by rw [← ht]; rfl)
  show Calls Try.prog 55 #[.int .i64 2, .slice (some ⟨b0, o0, none⟩) m cap, .int .i64 i, .int .i64 (b : Nat), V] w _
  clear hS ht hO hi hb hj
  have HLT := Lib.hid hltk
  clear hltk
  go_enter Try.func55, Try.ntmps55
  go_wp2_with (at_builtin; refine wpList_append_own _ rfl (.tmp 18) (.tmp 20) 28 rfl B 3 i0 _ 1 8 Try.underlying28 HI.out.1 HI.out.2.1 HI.out.2.2.1 HI.out.2.2.2 rfl (by decide) _ j xs rfl (HO.out.alloc _) ⟨w.heap.size, 0, none⟩ 1 1 [.int .i64 (b : Int)] rfl rfl ?a1 ?a2 ?a3 ?a4 ?a5 ?_)
  try (case a1 => exact fun j u hu => World.news_of_block (cs := #[.int .i64 (b : Int)]) (heap_new w _) j u hu)
  case a2 => first | (intro u hu; simp only [List.mem_cons, List.not_mem_nil, or_false] at hu; subst hu; rfl) | rfl
  case a3 => unfold maxLen; omega
  case a4 => omega
  try (case a5 => first | omega | (simp; done) | (simp; omega))
  intro v' w5 hown' hgrow _
  have HB5 : Below B w w5 := Below.grown ((Below.refl B w).alloc hB _) hgrow (by first | omega | (simp; omega)) (fun p hp => (HLT.out p hp).1)
  have g1 := (HB5.cell (p := ⟨b0, o0 + b, none⟩) hb0).trans g0
  have HO5 : Hid (w5.ownsRow B 3 1 v' (j + dp 0) (xs ++ cellsN (met s 0 b i))) := Lib.hid hown'
  have hbz := World.block_lt_of_cell? _ _ g1
  have HBB := Lib.hid HB5
  clear hown' hgrow g0 HB5 HO
  cases t <;> rcases hi2 with rfl | rfl
  all_goals
    go_wp2_with fail
    first
    | (refine bodyPost_ret (v := .tuple #[.int .i64 0, v']) ?_ rfl ?_; (focus (simp [results, Try.results55, go_sem]; done)); exact ⟨⟨_, by rw [HOUT.out]; rfl, HO5.out⟩, HBB.out⟩)
    | (refine bodyPost_ret (v := .tuple #[.int .i64 1, v']) ?_ rfl ?_; (focus (simp [results, Try.results55, go_sem]; done)); exact ⟨⟨_, by rw [HOUT.out]; rfl, HO5.out⟩, HBB.out⟩)
set_option maxRecDepth 100000 in
set_option maxHeartbeats 16000000 in
theorem rOut_succ (s : Nat → Bool) (k : Nat) (hk : k ≤ 2) (B m cap b0 o0 : Nat) (hm : m ≤ 80) (hb0 : b0 < B)
    (ih : ∀ (b i j : Nat) (bI : Int) (V : Value) (xs : List Value) (w : World), bI = (b : Nat) → B ≤ w.heap.size → (∀ q, q < m → w.cell? ⟨b0, o0 + q, none⟩ = some (.bool (s q))) → b + cn k ≤ m → i < sz k → j + dp k ≤ 100 → w.ownsRow B 3 1 V j xs → Calls Try.prog 55 #[.int .i64 (sz k : Nat), .slice (some ⟨b0, o0, none⟩) m cap, .int .i64 i, .int .i64 bI, V] w fun e w' => OutR B w' e s k b i j xs ∧ Below B w w')
    (b i j : Nat) (bI : Int) (V : Value) (xs : List Value) (w : World) (hbI : bI = (b : Nat)) (hB : B ≤ w.heap.size) (hS : ∀ q, q < m → w.cell? ⟨b0, o0 + q, none⟩ = some (.bool (s q))) (hb : b + cn (k + 1) ≤ m) (hi : i < sz (k + 1)) (hj : j + dp (k + 1) ≤ 100) (hO : w.ownsRow B 3 1 V j xs) :
    Calls Try.prog 55 #[.int .i64 (sz (k + 1) : Nat), .slice (some ⟨b0, o0, none⟩) m cap, .int .i64 i, .int .i64 bI, V] w fun e w' => OutR B w' e s (k + 1) b i j xs ∧ Below B w w' := by
  obtain ⟨i0, hi0, hz0, hz1, hz2⟩ := info_parts infoInt
  have HI := Lib.hid (And.intro hi0 (And.intro hz0 (And.intro hz1 hz2)))
  clear hi0 hz0 hz1 hz2
  subst hbI
  have hs2 : sz (k + 1) = 2 * sz k := rfl
  have hc2 : cn (k + 1) = sz (k + 1) + 2 * cn k := rfl
  have hd2 : dp (k + 1) = dp k + 2 := by unfold dp; omega
  have hp := cn_pos k
  have hsp := sz_pos k
  have hs16 := sz_le (show k + 1 ≤ 3 by omega)
  have hc56 := cn_le (show k ≤ 3 by omega)
  obtain ⟨x, hx⟩ : ∃ x, i / 2 = x := ⟨_, rfl⟩
  obtain ⟨r, hr⟩ : ∃ r, i % 2 = r := ⟨_, rfl⟩
  have hr2 : r < 2 := by omega
  have hxl : x < sz k := by omega
  obtain ⟨t, ht⟩ : ∃ t, s (b + x) = t := ⟨_, rfl⟩
  obtain ⟨q, hq⟩ : ∃ q, fl t r = q := ⟨_, rfl⟩
  have hq2 : q < 2 := by rw [← hq]; exact fl_lt hr2
  have hhalf := half_in (k := k) hq2
  obtain ⟨y, hy⟩ : ∃ y, q * cn k = y := ⟨_, rfl⟩
  rw [hy] at hhalf
  obtain ⟨a, ha⟩ : ∃ a, out s k (b + sz (k + 1) + y) x = a := ⟨_, rfl⟩
  have hal : a < sz k := by rw [← ha]; exact out_lt s k _ _ hxl
  obtain ⟨t2, ht2⟩ : ∃ t2, s (b + sz k + a) = t2 := ⟨_, rfl⟩
  obtain ⟨z, hz⟩ : ∃ z, fl t2 q = z := ⟨_, rfl⟩
  have hz2 : z < 2 := by rw [← hz]; exact fl_lt hq2
  obtain ⟨y1, hy1⟩ : ∃ y1, b + x = y1 := ⟨_, rfl⟩
  obtain ⟨y2, hy2⟩ : ∃ y2, b + sz k + a = y2 := ⟨_, rfl⟩
  have HOUT : Hid (out s (k + 1) b i = 2 * a + z ∧ met s (k + 1) b i = y1 :: (met s k (b + sz (k + 1) + y) x ++ [y2])) := Lib.hid (by
    simp only [out, met]
    rw [hx, hr, ht, hq, hy, ha, ht2, hz, hy1, hy2]
    exact ⟨rfl, rfl⟩)
  have e0 : (((sz (k + 1) : Nat) : Int) == 2) = false := beq_eq_false_iff_ne.2 (by omega)
  have e1 : ((sz (k + 1) : Nat) : Int) / 2 = ((sz k : Nat) : Int) := by omega
  have e2 : (i : Int) / 2 = (x : Int) := by omega
  have e3 : (i : Int) % 2 = (r : Int) := by omega
  have e4 : (b : Int) + (x : Int) = (y1 : Int) := by omega
  have e5 : (b : Int) + ((sz k : Nat) : Int) + (a : Int) = (y2 : Int) := by omega
  have e6 : (q : Int) * ((cn k : Nat) : Int) = (y : Int) := by rw [← hy]; exact (Int.natCast_mul q (cn k)).symm
  have hy1m : (y1 : Int) < (m : Int) := by omega
  have hy2m : (y2 : Int) < (m : Int) := by omega
  have g0 := hS y1 (by omega)
  rw [← hy1, ht, hy1] at g0
  have hbz := World.block_lt_of_cell? _ _ g0
  have HS := Lib.hid hS
  have HO := Lib.hid hO
  have HLT := Lib.hid hO.lt
  have HA := Lib.hid ha
  have HT2 : Hid (s y2 = t2) := Lib.hid (by rw [← hy2]; exact ht2)
  have HBM : Hid (b + sz (k + 1) + y + cn k ≤ m) := Lib.hid (by omega)
  have HXL := Lib.hid hxl
  have hjj : j + dp k + 2 ≤ 100 := by omega
  have b80 : (b : Int) ≤ 80 := by omega
  have y80 : (y : Int) ≤ 80 := by omega
  have hQ : (t = false → q = r) ∧ (t = true → (1 : Int) - (r : Int) = (q : Int)) := ⟨fun h => by rw [← hq, h]; rfl, fun h => by rw [← hq, h]; unfold fl; simp; omega⟩
  have hZ : (t2 = false → z = q) ∧ (t2 = true → (1 : Int) - (q : Int) = (z : Int)) := ⟨fun h => by rw [← hz, h]; rfl, fun h => by rw [← hz, h]; unfold fl; simp; omega⟩
  have HQ := Lib.hid hQ
  have HZ := Lib.hid hZ
  have hr0 : (r : Int) ≤ 1 := by omega
  have hq0 : (q : Int) ≤ 1 := by omega
  have hsk : (x : Int) < ((sz k : Nat) : Int) := by omega
  have hak : (a : Int) < ((sz k : Nat) : Int) := by omega
  have hs8 : ((sz (k + 1) : Nat) : Int) ≤ 16 := by omega
  have hsq8 : ((sz k : Nat) : Int) ≤ 16 := by omega
  clear hS ht hO hi hb hj hx hr hq hy ha ht2 hz hy1 hy2 hQ hZ hs2 hc2 hd2 hhalf hxl hal hr2 hq2
  go_enter Try.func55, Try.ntmps55
  go_wp2_with (at_builtin; refine wpList_append_own _ rfl (.tmp 35) (.tmp 37) 28 rfl B 3 i0 _ 1 8 Try.underlying28 HI.out.1 HI.out.2.1 HI.out.2.2.1 HI.out.2.2.2 rfl (by decide) _ j xs rfl (HO.out.alloc _) ⟨w.heap.size, 0, none⟩ 1 1 [.int .i64 (y1 : Int)] rfl rfl ?b1 ?b2 ?b3 ?b4 ?b5 ?_)
  try (case b1 => exact fun j u hu => World.news_of_block (cs := #[.int .i64 (y1 : Int)]) (heap_new w _) j u hu)
  case b2 => first | (intro u hu; simp only [List.mem_cons, List.not_mem_nil, or_false] at hu; subst hu; rfl) | rfl
  case b3 => unfold maxLen; omega
  case b4 => omega
  try (case b5 => first | omega | (simp; done) | (simp; omega))
  intro v' w5 hown' hgrow _
  have HB5 : Below B w w5 := Below.grown ((Below.refl B w).alloc hB _) hgrow (by first | omega | (simp; omega)) (fun p hp => (HLT.out p hp).1)
  have g1 := (HB5.cell (p := ⟨b0, o0 + y1, none⟩) hb0).trans g0
  have HO5 := Lib.hid hown'
  have hbz5 := World.block_lt_of_cell? _ _ g1
  have HBB := Lib.hid HB5
  have hB5 : B ≤ w5.heap.size := Nat.le_trans hB HB5.size
  clear hown' hgrow g0 HB5 HO hbz HLT
  cases t
  · obtain rfl := HQ.out.1 rfl
    clear HQ
    go_wp2_with fail
    refine (switches_any k (by omega) _).mono ?_
    rintro e w' ⟨rfl, rfl⟩
    go_wp2_with fail
    refine (ih (b + sz (k + 1) + y) x (j + 1) _ v' (xs ++ [.int .i64 (y1 : Int)]) _ (by omega) hB5 (fun q hq => (HBB.out.cell (p := ⟨b0, o0 + q, none⟩) hb0).trans (HS.out q hq)) HBM.out HXL.out (by omega) HO5.out).mono ?_
    rintro e w6 ⟨⟨V6, he, hV6⟩, hb6⟩
    rw [HA.out] at he
    subst he
    have HV6 := Lib.hid hV6
    have HL6 := Lib.hid hV6.lt
    have HB6 := Lib.hid (HBB.out.trans hb6)
    have hB6 : B ≤ w6.heap.size := Nat.le_trans hB HB6.out.size
    clear hV6 hb6 HBB HO5 g1 hbz5 hB5
    go_wp2_with (at_builtin; refine wpList_append_own _ rfl (.tmp 72) (.tmp 74) 28 rfl B 3 i0 _ 1 8 Try.underlying28 HI.out.1 HI.out.2.1 HI.out.2.2.1 HI.out.2.2.2 rfl (by decide) _ (j + 1 + dp k) (xs ++ [.int .i64 (y1 : Int)] ++ cellsN (met s k (b + sz (k + 1) + y) x)) rfl (HV6.out.alloc _) ⟨w6.heap.size, 0, none⟩ 1 1 [.int .i64 (y2 : Int)] rfl rfl ?c1 ?c2 ?c3 ?c4 ?c5 ?_)
    try (case c1 => exact fun j u hu => World.news_of_block (cs := #[.int .i64 (y2 : Int)]) (heap_new w6 _) j u hu)
    case c2 => first | (intro u hu; simp only [List.mem_cons, List.not_mem_nil, or_false] at hu; subst hu; rfl) | rfl
    case c3 => unfold maxLen; omega
    case c4 => omega
    try (case c5 => first | omega | (simp; done) | (simp; omega))
    intro v7 w7 hown' hgrow _
    have HB7 : Below B w w7 := Below.grown (HB6.out.alloc hB6 _) hgrow (by first | omega | (simp; omega)) (fun p hp => (HL6.out p hp).1)
    have g2 := (HB7.cell (p := ⟨b0, o0 + y2, none⟩) hb0).trans (HS.out y2 (by omega))
    rw [HT2.out] at g2
    have hbz7 := World.block_lt_of_cell? _ _ g2
    have HO7 : Hid (w7.ownsRow B 3 1 v7 (j + dp (k + 1)) (xs ++ cellsN (met s (k + 1) b i))) := Lib.hid (by
      have e : xs ++ cellsN (met s (k + 1) b i) = xs ++ Value.int .i64 (y1 : Int) :: (cellsN (met s k (b + sz (k + 1) + y) x) ++ [.int .i64 (y2 : Int)]) := by
        rw [HOUT.out.2]; simp [cellsN]
      rw [e, show j + dp (k + 1) = j + 1 + dp k + 1 by unfold dp; omega]
      exact hown')
    have HBC := Lib.hid HB7
    clear hown' hgrow HB7 HB6 HV6 HL6 hB6
    cases t2
    · obtain rfl := HZ.out.1 rfl
      clear HZ
      go_wp2_with fail
      refine bodyPost_ret (v := .tuple #[.int .i64 (2 * (a : Int) + (z : Int)), v7]) (by simp [results, Try.results55, go_sem]) rfl ⟨⟨_, ?_, HO7.out⟩, HBC.out⟩
      rw [HOUT.out.1, show ((2 * a + z : Nat) : Int) = 2 * (a : Int) + (z : Int) by omega]
    · have e8 := HZ.out.2 rfl
      clear HZ
      go_wp2_with fail
      refine bodyPost_ret (v := .tuple #[.int .i64 (2 * (a : Int) + (z : Int)), v7]) (by simp [results, Try.results55, go_sem]) rfl ⟨⟨_, ?_, HO7.out⟩, HBC.out⟩
      rw [HOUT.out.1, show ((2 * a + z : Nat) : Int) = 2 * (a : Int) + (z : Int) by omega]
  · have e7 := HQ.out.2 rfl
    clear HQ
    go_wp2_with fail
    refine (switches_any k (by omega) _).mono ?_
    rintro e w' ⟨rfl, rfl⟩
    go_wp2_with fail
    refine (ih (b + sz (k + 1) + y) x (j + 1) _ v' (xs ++ [.int .i64 (y1 : Int)]) _ (by omega) hB5 (fun q hq => (HBB.out.cell (p := ⟨b0, o0 + q, none⟩) hb0).trans (HS.out q hq)) HBM.out HXL.out (by omega) HO5.out).mono ?_
    rintro e w6 ⟨⟨V6, he, hV6⟩, hb6⟩
    rw [HA.out] at he
    subst he
    have HV6 := Lib.hid hV6
    have HL6 := Lib.hid hV6.lt
    have HB6 := Lib.hid (HBB.out.trans hb6)
    have hB6 : B ≤ w6.heap.size := Nat.le_trans hB HB6.out.size
    clear hV6 hb6 HBB HO5 g1 hbz5 hB5
    go_wp2_with (at_builtin; refine wpList_append_own _ rfl (.tmp 72) (.tmp 74) 28 rfl B 3 i0 _ 1 8 Try.underlying28 HI.out.1 HI.out.2.1 HI.out.2.2.1 HI.out.2.2.2 rfl (by decide) _ (j + 1 + dp k) (xs ++ [.int .i64 (y1 : Int)] ++ cellsN (met s k (b + sz (k + 1) + y) x)) rfl (HV6.out.alloc _) ⟨w6.heap.size, 0, none⟩ 1 1 [.int .i64 (y2 : Int)] rfl rfl ?d1 ?d2 ?d3 ?d4 ?d5 ?_)
    try (case d1 => exact fun j u hu => World.news_of_block (cs := #[.int .i64 (y2 : Int)]) (heap_new w6 _) j u hu)
    case d2 => first | (intro u hu; simp only [List.mem_cons, List.not_mem_nil, or_false] at hu; subst hu; rfl) | rfl
    case d3 => unfold maxLen; omega
    case d4 => omega
    try (case d5 => first | omega | (simp; done) | (simp; omega))
    intro v7 w7 hown' hgrow _
    have HB7 : Below B w w7 := Below.grown (HB6.out.alloc hB6 _) hgrow (by first | omega | (simp; omega)) (fun p hp => (HL6.out p hp).1)
    have g2 := (HB7.cell (p := ⟨b0, o0 + y2, none⟩) hb0).trans (HS.out y2 (by omega))
    rw [HT2.out] at g2
    have hbz7 := World.block_lt_of_cell? _ _ g2
    have HO7 : Hid (w7.ownsRow B 3 1 v7 (j + dp (k + 1)) (xs ++ cellsN (met s (k + 1) b i))) := Lib.hid (by
      have e : xs ++ cellsN (met s (k + 1) b i) = xs ++ Value.int .i64 (y1 : Int) :: (cellsN (met s k (b + sz (k + 1) + y) x) ++ [.int .i64 (y2 : Int)]) := by
        rw [HOUT.out.2]; simp [cellsN]
      rw [e, show j + dp (k + 1) = j + 1 + dp k + 1 by unfold dp; omega]
      exact hown')
    have HBC := Lib.hid HB7
    clear hown' hgrow HB7 HB6 HV6 HL6 hB6
    cases t2
    · obtain rfl := HZ.out.1 rfl
      clear HZ
      go_wp2_with fail
      refine bodyPost_ret (v := .tuple #[.int .i64 (2 * (a : Int) + (z : Int)), v7]) (by simp [results, Try.results55, go_sem]) rfl ⟨⟨_, ?_, HO7.out⟩, HBC.out⟩
      rw [HOUT.out.1, show ((2 * a + z : Nat) : Int) = 2 * (a : Int) + (z : Int) by omega]
    · have e8 := HZ.out.2 rfl
      clear HZ
      go_wp2_with fail
      refine bodyPost_ret (v := .tuple #[.int .i64 (2 * (a : Int) + (z : Int)), v7]) (by simp [results, Try.results55, go_sem]) rfl ⟨⟨_, ?_, HO7.out⟩, HBC.out⟩
      rw [HOUT.out.1, show ((2 * a + z : Nat) : Int) = 2 * (a : Int) + (z : Int) by omega]
theorem rOut_any (s : Nat → Bool) (B m cap b0 o0 : Nat) (hm : m ≤ 80) (hb0 : b0 < B) : ∀ (k : Nat), k ≤ 3 → ∀ (b i j : Nat) (bI : Int) (V : Value) (xs : List Value) (w : World), bI = (b : Nat) → B ≤ w.heap.size → (∀ q, q < m → w.cell? ⟨b0, o0 + q, none⟩ = some (.bool (s q))) → b + cn k ≤ m → i < sz k → j + dp k ≤ 100 → w.ownsRow B 3 1 V j xs → Calls Try.prog 55 #[.int .i64 (sz k : Nat), .slice (some ⟨b0, o0, none⟩) m cap, .int .i64 i, .int .i64 bI, V] w fun e w' => OutR B w' e s k b i j xs ∧ Below B w w' := by
  intro k
  induction k with
  | zero => intro _ b i j bI V xs w h1 h2 h3 h4 h5 h6 h7; exact rOut_zero s B m cap b0 o0 b i j bI V xs w h1 h2 hm h3 hb0 h4 h5 h6 h7
  | succ k ih => intro hk b i j bI V xs w h1 h2 h3 h4 h5 h6 h7; exact rOut_succ s k (by omega) B m cap b0 o0 hm hb0 (ih (by omega)) b i j bI V xs w h1 h2 h3 h4 h5 h6 h7
end Go.Proofs.Ytfilofnkiocbeaa
