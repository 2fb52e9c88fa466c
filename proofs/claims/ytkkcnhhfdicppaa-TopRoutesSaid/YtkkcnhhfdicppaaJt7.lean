import Derived.Test.YtkkcnhhfdicppaaJd7
namespace Go.Proofs.Ytkkcnhhfdicppaa
open Go.RowKit Lay
/-- A slice of crossings of the first path with the second one. -/
def CRs (w : World) (ao : Option Addr) (n : Nat) : Prop := 0 < n → ∃ b, ao = some ⟨b, 0, none⟩ ∧ ∀ k, k < n → ∃ x y : Int, w.cell? ⟨b, k * 4, none⟩ = some (.int .i64 x) ∧ w.cell? ⟨b, k * 4 + 1, none⟩ = some (.int .i64 y) ∧ w.cell? ⟨b, k * 4 + 2, none⟩ = some (.int .i64 0) ∧ w.cell? ⟨b, k * 4 + 3, none⟩ = some (.int .i64 1)
theorem CRs.keep {w w1 : World} {ao : Option Addr} {n : Nat} (h : CRs w ao n) (hb : Below w.heap.size w w1) : CRs w1 ao n := by
  intro h0
  obtain ⟨b, e, hc⟩ := h h0
  refine ⟨b, e, fun k hk => ?_⟩
  obtain ⟨x, y, a, c, d, f⟩ := hc k hk
  have key : ∀ {ad : Addr} {v : Value}, w.cell? ad = some v → w1.cell? ad = some v := fun h => (World.cell?_of_block (hb.block _ (World.block_lt_of_cell? _ _ h))).trans h
  exact ⟨x, y, key a, key c, key d, key f⟩
theorem crC_get : ∀ (l : List (Int × Int)) (k : Nat), k < l.length → ∃ x y : Int, (crC l)[k * 4]? = some (.int .i64 x) ∧ (crC l)[k * 4 + 1]? = some (.int .i64 y) ∧ (crC l)[k * 4 + 2]? = some (.int .i64 0) ∧ (crC l)[k * 4 + 3]? = some (.int .i64 1)
  | [], k, h => by simp at h
  | c :: l, 0, _ => ⟨c.1, c.2, rfl, rfl, rfl, rfl⟩
  | c :: l, k + 1, h => by
    obtain ⟨x, y, a, b, d, e⟩ := crC_get l k (by simpa using h)
    have e0 : crC (c :: l) = .int .i64 c.1 :: .int .i64 c.2 :: .int .i64 0 :: .int .i64 1 :: crC l := rfl
    rw [e0]
    refine ⟨x, y, ?_, ?_, ?_, ?_⟩
    · rw [show (k + 1) * 4 = k * 4 + 1 + 1 + 1 + 1 by omega]; simpa using a
    · rw [show (k + 1) * 4 + 1 = (k * 4 + 1) + 1 + 1 + 1 + 1 by omega]; simpa using b
    · rw [show (k + 1) * 4 + 2 = (k * 4 + 2) + 1 + 1 + 1 + 1 by omega]; simpa using d
    · rw [show (k + 1) * 4 + 3 = (k * 4 + 3) + 1 + 1 + 1 + 1 by omega]; simpa using e
theorem own_crs {w : World} {b N : Nat} {v : Value} {l : List (Int × Int)} (h : w.ownsRow b 95 4 v N (crC l)) (hN : l.length = N) : ∃ ao cap, v = .slice ao N cap ∧ CRs w ao N := by
  obtain ⟨_, ⟨rfl, hn⟩ | ⟨g, cap, cur, rfl, hg, hb, _, _, hs, ht⟩⟩ := h
  · subst hn
    exact ⟨none, 0, rfl, fun h => absurd h (by omega)⟩
  · refine ⟨_, cap, rfl, fun _ => ⟨g, rfl, fun k hk => ?_⟩⟩
    obtain ⟨x, y, c0, c1, c2, c3⟩ := crC_get l k (by omega)
    have key : ∀ j u, j < N * 4 → (crC l)[j]? = some u → w.cell? ⟨g, j, none⟩ = some u := fun j u hj hu => by
      refine cell_of_blk hb ?_
      rw [← ht, List.getElem?_take_of_lt hj, Array.getElem?_toList] at hu
      exact hu
    exact ⟨x, y, key _ _ (by omega) c0, key _ _ (by omega) c1, key _ _ (by omega) c2, key _ _ (by omega) c3⟩
set_option maxRecDepth 100000 in
set_option maxHeartbeats 32000000 in
theorem pTogether_no (Wn Hn : Int) (M B : Int) (nb cb : Nat) (ao : Option Addr) (XB YB : Nat → Int) (cq : Nat) (sa : Option Addr) (A : Nat → Option Addr) (N C : Nat → Nat) (X Y : Nat → Nat → Int) (w : World) (E : Int) (hE : rdE (vaG Wn Hn M B nb XB YB) 2 (erN (fun j => chE Wn Hn (blkN XB YB nb) (X j) (Y j) (N j)) 2) = E) (hne : E ≠ 0)
    (hn : nb ≤ 9223372036854775807) (hc : XYs w ao nb XB YB) (hp : PSl w sa 2 A N C X Y) (hN : ∀ j, j < 2 → N j ≤ 1000000 ∧ R2 (X j) (Y j) (N j)) :
    Calls Try.prog 22 #[.agg #[.int .i64 Wn, .int .i64 Hn, .int .i64 M, .int .i64 B, .slice ao nb cb], .slice sa 2 cq] w fun e w' => e = .returned (.tuple #[.slice none 0 0, .int .i64 E]) ∧ Below w.heap.size w w' := by
  have HC := Lib.hid hc
  have HP := Lib.hid hp
  have HN := Lib.hid hN
  clear hc hp hN
  have HE := Lib.hid hE
  clear hE
  go_enter Try.func22, Try.ntmps22
  go_wp2_with fail
  refine (crossingsOf_no Wn Hn M B nb cb ao XB YB cq sa A N C X Y _ E HE.out hne hn (HC.out.keep (by go_grown)) (HP.out.keep (by go_grown)) HN.out).mono ?_
  rintro e w1 ⟨rfl, hb⟩
  have hbl : Below w.heap.size w w1 := Below.trans (by go_grown) (hb.mono (by simp))
  clear hb
  go_wp2_with fail
  refine bodyPost_ret (v := .tuple #[.slice none 0 0, .int .i64 E]) (by simp [results, Try.results22, go_sem]) rfl ⟨rfl, hbl⟩
set_option maxRecDepth 100000 in
set_option maxHeartbeats 32000000 in
theorem pTogether_ok (Wn Hn : Nat) (M B : Int) (nb cb : Nat) (ao : Option Addr) (XB YB : Nat → Int) (cq : Nat) (sa : Option Addr) (A : Nat → Option Addr) (N C : Nat → Nat) (X Y : Nat → Nat → Int) (w : World) (hv : vaG Wn Hn M B nb XB YB = true) (hE : erN (fun j => chE Wn Hn (blkN XB YB nb) (X j) (Y j) (N j)) 2 = 0)
    (hn : nb ≤ 9223372036854775807) (hc : XYs w ao nb XB YB) (hp : PSl w sa 2 A N C X Y) (hN : ∀ j, j < 2 → N j ≤ 1000000 ∧ R2 (X j) (Y j) (N j)) :
    Calls Try.prog 22 #[.agg #[.int .i64 Wn, .int .i64 Hn, .int .i64 M, .int .i64 B, .slice ao nb cb], .slice sa 2 cq] w fun e w' => (e = .returned (.tuple #[.slice none 0 0, .int .i64 73]) ∧ (∃ j, j < Hn * Wn ∧ boJ X Y N Wn j = true ∧ arJ X Y N Wn j = false) ∧ Below w.heap.size w w') ∨ ∃ al cl, e = .returned (.tuple #[.slice al (csL X Y N Wn (Hn * Wn)).length cl, .int .i64 0]) ∧ (∀ j, j < Hn * Wn → boJ X Y N Wn j = true → arJ X Y N Wn j = true) ∧ Below w.heap.size w w' := by
  obtain ⟨i0, hi, hi0, hi1, hi2⟩ := info_parts xy_info
  have HI := Lib.hid (And.intro hi (And.intro hi0 (And.intro hi1 hi2)))
  clear hi hi0 hi1 hi2
  have HC := Lib.hid hc
  have HP := Lib.hid hp
  have HN := Lib.hid hN
  clear hc hp hN
  have HV := Lib.hid hv
  have HE := Lib.hid hE
  obtain ⟨hnum, _⟩ := vaG_num hv
  have hN9 : Hn * Wn ≤ 900 := Nat.le_trans (Nat.mul_le_mul (show Hn ≤ 30 by omega) (show Wn ≤ 30 by omega)) (by decide)
  have hL9 : (csL X Y N Wn (Hn * Wn)).length ≤ 900 := Nat.le_trans (csL_le X Y N Wn _) hN9
  clear hv hE hnum hN9
  go_enter Try.func22, Try.ntmps22
  go_wp2_with fail
  refine (crossingsOf_ok Wn Hn M B nb cb ao XB YB cq sa A N C X Y _ HV.out HE.out hn (HC.out.keep (by go_grown)) (HP.out.keep (by go_grown)) HN.out).mono ?_
  rintro e w1 h
  rcases h with ⟨rfl, hbad, hb⟩ | ⟨v1, rfl, hall, hown, hb⟩
  · have hbl : Below w.heap.size w w1 := Below.trans (by go_grown) (hb.mono (by simp))
    have HBD := Lib.hid hbad
    clear hb hbad
    go_wp2_with fail
    refine bodyPost_ret (v := .tuple #[.slice none 0 0, .int .i64 73]) (by simp [results, Try.results22, go_sem]) rfl (Or.inl ⟨rfl, HBD.out, hbl⟩)
  obtain ⟨ac, cc, rfl, hcr⟩ := own_crs hown rfl
  have HB1 : Hid (Below w.heap.size w w1) := Lib.hid (Below.trans (by go_grown) (hb.mono (by simp)))
  have HAL := Lib.hid hall
  have HCR := Lib.hid hcr
  obtain ⟨L, hL⟩ : ∃ z, (csL X Y N Wn (Hn * Wn)).length = z := ⟨_, rfl⟩
  rw [hL] at HCR hL9 ⊢
  have HL := Lib.hid hL
  clear hown hb hall hcr hL
  go_wp2_with fail
  go_loopg [8, 22] L (fun gg v8 v22 wr => ∃ k : Nat, v22 = .int .i64 k ∧ k ≤ L ∧ Hid (L - k ≤ gg) ∧ Hid (∃ xs, wr.ownsRow w1.heap.size 26 2 v8 k xs) ∧ Hid (Below w1.heap.size w1 wr))
  case atStart => exact ⟨0, rfl, Nat.zero_le _, Lib.hid (Nat.le_refl _), Lib.hid ⟨[], World.ownsRow_nil _ _ _ _⟩, Lib.hid (Below.refl _ _)⟩
  case round =>
    obtain ⟨k, rfl, hk, HG, HO, HB⟩ := hrel
    have HGG : Hid (L - k ≤ gk) := Lib.hid HG.out
    clear HG
    have hz := HB.out.size
    by_cases hlt : k < L
    case neg =>
      obtain rfl : k = L := by omega
      obtain ⟨xs, hown⟩ := HO.out
      have hsh : ∃ al cl, u8 = .slice al k cl := by
        obtain ⟨_, ⟨rfl, rfl⟩ | ⟨g, cap, cur, rfl, _⟩⟩ := hown
        · exact ⟨_, _, rfl⟩
        · exact ⟨_, _, rfl⟩
      obtain ⟨al, cl, rfl⟩ := hsh
      clear hown
      go_wp2_with fail
      refine bodyPost_ret (v := .tuple #[.slice al k cl, .int .i64 0]) (by simp [results, Try.results22, go_sem, *]) rfl (Or.inr ⟨al, cl, by rw [HL.out], HAL.out, HB1.out.trans (HB.out.mono (by have := HB1.out.size; omega))⟩)
    obtain ⟨bc, hce, hcell⟩ := (HCR.out.keep HB.out) (by omega)
    subst hce
    obtain ⟨x, y, c0, c1, c2, c3⟩ := hcell k hlt
    obtain ⟨wq, hwq⟩ : ∃ z, z = wr.alloc (.cells #[.int .i64 x, .int .i64 y, .int .i64 0, .int .i64 1] 95) := ⟨_, rfl⟩
    obtain ⟨bq, hbq⟩ : ∃ z, z = wr.heap.size := ⟨_, rfl⟩
    have hcq : Below wr.heap.size wr wq := by rw [hwq]; exact bal (Below.refl _ _) _
    have KQ : Hid (wq.heap[bq]? = some (.cells #[.int .i64 x, .int .i64 y, .int .i64 0, .int .i64 1] 95 (0, 0))) := Lib.hid (by rw [hwq, hbq]; exact heap_alloc_new wr _)
    have hsq : wq.heap.size = bq + 1 := by rw [hwq]; simp; omega
    obtain ⟨xs, hown⟩ := HO.out
    have HOq := Lib.hid (own_below' hown hcq)
    have HBq : Hid (Below w1.heap.size w1 wq) := Lib.hid (HB.out.trans (hcq.mono hz))
    have hqz : w1.heap.size ≤ bq := by omega
    have HWQ := Lib.hid hwq
    have HBQ := Lib.hid hbq
    clear hcell hcq HO HB hwq hbq hown
    go_upto_region 8 with fail
    rw [← HBQ.out, ← HWQ.out]
    clear HBQ HWQ c0 c1 c2 c3
    obtain ⟨x0, x1⟩ : wq.cell? ⟨bq, 0, none⟩ = some (.int .i64 x) ∧ wq.cell? ⟨bq, 1, none⟩ = some (.int .i64 y) := ⟨cell_of_blk KQ.out rfl, cell_of_blk KQ.out rfl⟩
    refine wp_region_lit ?_
    refine wpList_step (fun K hK => ?_); go_simp; refine hK _ _ ?_; clear hK K
    refine wpList_step (fun K hK => ?_); go_simp; refine hK _ _ ?_; clear hK K
    refine wpList_step (fun K hK => ?_); go_simp; refine hK _ _ ?_; clear hK K
    refine wpList_step (fun K hK => ?_); go_simp; refine hK _ _ ?_; clear hK K
    have hNB : (wq.alloc (.cells #[.int .i64 x, .int .i64 y] 26)).heap[bq + 1]? = some (.cells #[.int .i64 x, .int .i64 y] 26 (0, 0)) := by have h := heap_alloc_new wq (.cells #[.int .i64 x, .int .i64 y] 26); rwa [hsq] at h
    refine wpList_append_own _ rfl _ _ 22 rfl w1.heap.size 26 i0 _ 2 16 Try.underlying22 HI.out.1 HI.out.2.1 HI.out.2.2.1 HI.out.2.2.2 (by rfl) (by decide) u8 k xs (by rfl) (HOq.out.alloc _) ⟨bq + 1, 0, none⟩ 1 1 [.int .i64 x, .int .i64 y] (by rfl) rfl (fun j u hu => World.news_of_block (cs := #[.int .i64 x, .int .i64 y]) hNB j u hu) (by intro u hu; simp only [List.mem_cons, List.not_mem_nil, or_false] at hu; rcases hu with rfl | rfl <;> rfl) (by unfold maxLen; omega) (by omega) (by simp; omega) ?_
    intro v' w9 hown' hgrow hnil
    have hlb := HOq.out.lt
    have HB9 : Hid (Below w1.heap.size w1 w9) := Lib.hid ((HBq.out.alloc (by omega) _).grown hgrow (by simp; omega) (fun k hk => by have := (hlb k hk).1; omega))
    have HO9 : Hid (∃ xs, w9.ownsRow w1.heap.size 26 2 v' (k + 1) xs) := Lib.hid ⟨_, hown'⟩
    clear hown' hgrow hnil hlb hNB HOq HBq KQ x0 x1
    refine wpList_step (fun K hK => ?_); go_simp; refine hK _ _ ?_; clear hK K
    refine wpList_nil ?_
    go_wp2_with fail
    go_roundg (L - (k + 1))
    case measure => have := HGG.out; omega
    case rel => exact ⟨k + 1, by go_num, by omega, Lib.hid (Nat.le_refl _), HO9, HB9⟩
theorem a3_info : (Try.prog.info? 48 ).map (fun i => (i.zero, i.size, i.bytes)) = some (some (.agg #[.int .i64 0, .int .i64 0, .int .i64 0]), 3, 24) := by kernel_rfl
def tmG (k : Nat) : Int → Int → Value := fun a c => if a = 0 ∧ c = 1 then .int .i64 k else .int .i64 0
theorem tmG_next (k : Nat) : (fun a c => if a = 0 ∧ c = 1 then (.int .i64 ((k : Int) + 1) : Value) else tmG k a c) = tmG (k + 1) := by
  funext a c
  unfold tmG
  by_cases h : a = 0 ∧ c = 1
  · rw [if_pos h, if_pos h]; rfl
  · rw [if_neg h, if_neg h, if_neg h]
theorem tmG_zero : (fun _ _ => (.int .i64 0 : Value)) = tmG 0 := by funext a c; unfold tmG; split <;> rfl
def cnT (L i : Nat) : Nat := if 0 < L ∧ 2 ≤ i then 1 else 0
/-- The one row of a table of crossings. -/
def CrRow (w : World) (al : Option Addr) (L : Nat) : Prop := 0 < L → ∃ g, al = some ⟨g, 0, none⟩ ∧ w.cell? ⟨g, 0, none⟩ = some (.int .i64 0) ∧ w.cell? ⟨g, 1, none⟩ = some (.int .i64 1) ∧ w.cell? ⟨g, 2, none⟩ = some (.int .i64 L)
def rwT (L i : Nat) : List Value := if 0 < L ∧ 2 ≤ i then [.int .i64 0, .int .i64 1, .int .i64 L] else []
set_option maxRecDepth 100000 in
set_option maxHeartbeats 32000000 in
theorem pCrossed_no (Wn Hn : Int) (M B : Int) (nb cb : Nat) (ao : Option Addr) (XB YB : Nat → Int) (cq : Nat) (sa : Option Addr) (A : Nat → Option Addr) (N C : Nat → Nat) (X Y : Nat → Nat → Int) (w : World) (E : Int) (hE : rdE (vaG Wn Hn M B nb XB YB) 2 (erN (fun j => chE Wn Hn (blkN XB YB nb) (X j) (Y j) (N j)) 2) = E) (hne : E ≠ 0)
    (hn : nb ≤ 9223372036854775807) (hc : XYs w ao nb XB YB) (hp : PSl w sa 2 A N C X Y) (hN : ∀ j, j < 2 → N j ≤ 1000000 ∧ R2 (X j) (Y j) (N j)) :
    Calls Try.prog 23 #[.agg #[.int .i64 Wn, .int .i64 Hn, .int .i64 M, .int .i64 B, .slice ao nb cb], .slice sa 2 cq] w fun e w' => e = .returned (.tuple #[.slice none 0 0, .int .i64 E]) ∧ Below w.heap.size w w' := by
  have HC := Lib.hid hc
  have HP := Lib.hid hp
  have HN := Lib.hid hN
  clear hc hp hN
  have HE := Lib.hid hE
  clear hE
  go_enter Try.func23, Try.ntmps23
  go_wp2_with fail
  refine (crossingsOf_no Wn Hn M B nb cb ao XB YB cq sa A N C X Y _ E HE.out hne hn (HC.out.keep (by go_grown)) (HP.out.keep (by go_grown)) HN.out).mono ?_
  rintro e w1 ⟨rfl, hb⟩
  have hbl : Below w.heap.size w w1 := Below.trans (by go_grown) (hb.mono (by simp))
  clear hb
  go_wp2_with fail
  refine bodyPost_ret (v := .tuple #[.slice none 0 0, .int .i64 E]) (by simp [results, Try.results23, go_sem]) rfl ⟨rfl, hbl⟩
set_option maxRecDepth 100000 in
set_option maxHeartbeats 32000000 in
theorem pCrossed_ok (Wn Hn : Nat) (M B : Int) (nb cb : Nat) (ao : Option Addr) (XB YB : Nat → Int) (cq : Nat) (sa : Option Addr) (A : Nat → Option Addr) (N C : Nat → Nat) (X Y : Nat → Nat → Int) (w : World) (hv : vaG Wn Hn M B nb XB YB = true) (hE : erN (fun j => chE Wn Hn (blkN XB YB nb) (X j) (Y j) (N j)) 2 = 0)
    (hn : nb ≤ 9223372036854775807) (hc : XYs w ao nb XB YB) (hp : PSl w sa 2 A N C X Y) (hN : ∀ j, j < 2 → N j ≤ 1000000 ∧ R2 (X j) (Y j) (N j)) :
    Calls Try.prog 23 #[.agg #[.int .i64 Wn, .int .i64 Hn, .int .i64 M, .int .i64 B, .slice ao nb cb], .slice sa 2 cq] w fun e w' => (e = .returned (.tuple #[.slice none 0 0, .int .i64 73]) ∧ (∃ j, j < Hn * Wn ∧ boJ X Y N Wn j = true ∧ arJ X Y N Wn j = false) ∧ Below w.heap.size w w') ∨ ∃ al cl, e = .returned (.tuple #[.slice al (cnT (csL X Y N Wn (Hn * Wn)).length 4) cl, .int .i64 0]) ∧ CrRow w' al (csL X Y N Wn (Hn * Wn)).length ∧ (∀ j, j < Hn * Wn → boJ X Y N Wn j = true → arJ X Y N Wn j = true) ∧ Below w.heap.size w w' := by
  obtain ⟨i0, hi, hi0, hi1, hi2⟩ := info_parts a3_info
  have HI := Lib.hid (And.intro hi (And.intro hi0 (And.intro hi1 hi2)))
  clear hi hi0 hi1 hi2
  have hmm := @run_makeMap Try.prog
  have HC := Lib.hid hc
  have HP := Lib.hid hp
  have HN := Lib.hid hN
  clear hc hp hN
  have HV := Lib.hid hv
  have HE := Lib.hid hE
  obtain ⟨hnum, _⟩ := vaG_num hv
  have hN9 : Hn * Wn ≤ 900 := Nat.le_trans (Nat.mul_le_mul (show Hn ≤ 30 by omega) (show Wn ≤ 30 by omega)) (by decide)
  have hL9 : (csL X Y N Wn (Hn * Wn)).length ≤ 900 := Nat.le_trans (csL_le X Y N Wn _) hN9
  clear hv hE hnum hN9
  go_enter Try.func23, Try.ntmps23
  go_wp2_with fail
  refine (crossingsOf_ok Wn Hn M B nb cb ao XB YB cq sa A N C X Y _ HV.out HE.out hn (HC.out.keep (by go_grown)) (HP.out.keep (by go_grown)) HN.out).mono ?_
  rintro e w1 h
  rcases h with ⟨rfl, hbad, hb⟩ | ⟨v1, rfl, hall, hown, hb⟩
  · have hbl : Below w.heap.size w w1 := Below.trans (by go_grown) (hb.mono (by simp))
    have HBD := Lib.hid hbad
    clear hb hbad
    go_wp2_with fail
    refine bodyPost_ret (v := .tuple #[.slice none 0 0, .int .i64 73]) (by simp [results, Try.results23, go_sem]) rfl (Or.inl ⟨rfl, HBD.out, hbl⟩)
  obtain ⟨ac, cc, rfl, hcr⟩ := own_crs hown rfl
  have HB1 : Hid (Below w.heap.size w w1) := Lib.hid (Below.trans (by go_grown) (hb.mono (by simp)))
  have HAL := Lib.hid hall
  have HCR := Lib.hid hcr
  obtain ⟨L, hL⟩ : ∃ z, (csL X Y N Wn (Hn * Wn)).length = z := ⟨_, rfl⟩
  rw [hL] at HCR hL9 ⊢
  have HL := Lib.hid hL
  clear hown hb hall hcr hL
  go_wp2_with fail
  obtain ⟨bT, hbT⟩ : ∃ z, z = w1.heap.size := ⟨_, rfl⟩
  have HBT := Lib.hid hbT
  have KT0 : Hid (TMap (w1.alloc (.map #[] 0)) bT 0 (tmG 0)) := Lib.hid (by rw [hbT, ← tmG_zero]; exact GM.made w1 in_ok)
  have hT1 : bT < (w1.alloc (.map #[] 0)).heap.size := by simp; omega
  rw [← hbT]
  clear hbT
  go_loopg [27] L (fun gg v27 wr => ∃ k : Nat, v27 = .int .i64 k ∧ k ≤ L ∧ Hid (L - k ≤ gg) ∧ Hid (TMap wr bT k (tmG k)) ∧ Hid (Below w1.heap.size w1 wr) ∧ bT < wr.heap.size)
  case atStart => exact ⟨0, rfl, Nat.zero_le _, Lib.hid (Nat.le_refl _), KT0, Lib.hid (by go_grown), hT1⟩
  case round =>
    obtain ⟨k, rfl, hk, HG, HT, HB, hTz⟩ := hrel
    have HGG : Hid (L - k ≤ gk) := Lib.hid HG.out
    clear HG
    by_cases hlt : k < L
    case pos =>
      obtain ⟨bc, hce, hcell⟩ := (HCR.out.keep HB.out) (by omega)
      subst hce
      obtain ⟨x, y, c0, c1, c2, c3⟩ := hcell k hlt
      obtain ⟨wq, hwq⟩ : ∃ z, z = wr.alloc (.cells #[.int .i64 x, .int .i64 y, .int .i64 0, .int .i64 1] 95) := ⟨_, rfl⟩
      obtain ⟨bq, hbq⟩ : ∃ z, z = wr.heap.size := ⟨_, rfl⟩
      have hcq : Below wr.heap.size wr wq := by rw [hwq]; exact bal (Below.refl _ _) _
      have KQ : Hid (wq.heap[bq]? = some (.cells #[.int .i64 x, .int .i64 y, .int .i64 0, .int .i64 1] 95 (0, 0))) := Lib.hid (by rw [hwq, hbq]; exact heap_alloc_new wr _)
      have hsq := Lib.hid (show wq.heap.size = bq + 1 by rw [hwq]; simp; omega)
      have HTq : Hid (TMap wq bT k (tmG k)) := Lib.hid (HT.out.keep (hcq.block _ hTz))
      have HBq : Hid (Below w1.heap.size w1 wq) := Lib.hid (HB.out.trans (hcq.mono HB.out.size))
      have hTq : bT < bq := by omega
      have HWQ := Lib.hid hwq
      have HBQ := Lib.hid hbq
      clear hcell hcq HT HB hwq hbq
      go_upto_region 8 with fail
      rw [← HBQ.out, ← HWQ.out]
      clear HBQ HWQ c0 c1 c2 c3
      obtain ⟨y0, y1⟩ : wq.cell? ⟨bq, 2, none⟩ = some (.int .i64 0) ∧ wq.cell? ⟨bq, 3, none⟩ = some (.int .i64 1) := ⟨cell_of_blk KQ.out rfl, cell_of_blk KQ.out rfl⟩
      obtain ⟨st, wA, hrun, hgA, hgr, hstore⟩ := (show TMap wq.drew bT k (tmG k) from HTq.out.keep rfl).entry timK in_ok (by unfold maxLen; omega) (wf7 (x := 0) (by omega) (by omega)) (wf7 (x := 1) (by omega) (by omega))
      obtain ⟨wB, hrunB, hgB, hgrB⟩ := hstore wA (.int .i64 ((k : Int) + 1)) _ _ rfl rfl
      have hl := (show TMap wq.drew bT k (tmG k) from HTq.out.keep rfl).look timK in_ok (wf7 (x := 0) (by omega) (by omega)) (wf7 (x := 1) (by omega) (by omega))
      have hl2 := hgA.look timK in_ok (wf7 (x := 0) (by omega) (by omega)) (wf7 (x := 1) (by omega) (by omega))
      have htm : tmG k 0 1 = .int .i64 k := rfl
      rw [htm] at hl hl2 hrun
      simp only [goInt] at hrun hrunB
      have hTB : bT < wB.heap.size := hgB.lt
      rw [tmG_next] at hgB
      have HTB := Lib.hid hgB
      have hs1 := hgr.size
      have hs2 := hgrB.size
      have HBB : Hid (Below w1.heap.size w1 wB) := Lib.hid ((HBq.out.drew.grown hgr (by have := HBq.out.size; show w1.heap.size ≤ wq.heap.size; omega) (fun q hq => by cases hq; have := HBT.out; omega)).grown hgrB (by have h1 := HBq.out.size; have h2 : wq.heap.size ≤ wA.heap.size := hs1; omega) (fun q hq => by cases hq; have := HBT.out; omega))
      clear hgr hgrB hgA hgB hstore htm HTq HBq hs1 hs2
      go_region
      clear hrun hrunB hl hl2 y0 y1 KQ
      go_wp2_with fail
      go_roundg (L - (k + 1))
      case measure => have := HGG.out; omega
      case rel => exact ⟨k + 1, by go_num, by omega, Lib.hid (Nat.le_refl _), HTB, HBB, hTB⟩
    obtain rfl : k = L := by omega
    have HTL := HT
    have HBL : Hid (Below w.heap.size w wr) := Lib.hid (HB1.out.trans (HB.out.mono HB1.out.size))
    clear HT HB HB1 HCR HGG HBT hlt
    obtain ⟨w2, hw2⟩ : ∃ z, z = wr := ⟨wr, rfl⟩
    subst hw2
    go_wp2_with fail
    go_loopg [11, 41] 2 (fun gg v11 v41 wr => ∃ p : Nat, v41 = .int .i64 p ∧ p ≤ 2 ∧ Hid (2 - p ≤ gg) ∧ Hid (wr.ownsRow w2.heap.size 48 3 v11 (cnT k (2 * p)) (rwT k (2 * p))) ∧ Hid (Below w2.heap.size w2 wr))
    case atStart => exact ⟨0, rfl, by omega, Lib.hid (Nat.le_refl _), Lib.hid (by unfold cnT rwT; simp; exact World.ownsRow_nil _ _ _ _), Lib.hid (Below.refl _ _)⟩
    case round =>
      obtain ⟨p, rfl, hp, HG, HO, HB⟩ := hrel
      have HGG : Hid (2 - p ≤ gk) := Lib.hid HG.out
      clear HG
      by_cases hlt : p < 2
      case neg =>
        obtain rfl : p = 2 := by omega
        have hown := HO.out
        have hsh : ∃ al cl, u11 = .slice al (cnT k 4) cl ∧ CrRow wr al k := by
          obtain ⟨_, ⟨rfl, hn0⟩ | ⟨g, cap, cur, rfl, _, hg, _, _, _, ht⟩⟩ := hown
          · refine ⟨none, 0, by rw [hn0], fun h => ?_⟩
            unfold cnT at hn0
            rw [if_pos ⟨h, by omega⟩] at hn0
            omega
          · refine ⟨_, _, rfl, fun h => ⟨g, rfl, ?_⟩⟩
            unfold cnT rwT at ht
            rw [if_pos ⟨h, by omega⟩, if_pos ⟨h, by omega⟩] at ht
            have key : ∀ j u, j < 3 → ([.int .i64 0, .int .i64 1, .int .i64 k] : List Value)[j]? = some u → wr.cell? ⟨g, j, none⟩ = some u := fun j u hj hu => by
              refine cell_of_blk hg ?_
              rw [← ht, List.getElem?_take_of_lt (by omega), Array.getElem?_toList] at hu
              exact hu
            exact ⟨key 0 _ (by omega) rfl, key 1 _ (by omega) rfl, key 2 _ (by omega) rfl⟩
        obtain ⟨al, cl, rfl, hcr⟩ := hsh
        have HCRR := Lib.hid hcr
        clear hown hcr HO
        go_wp2_with fail
        refine bodyPost_ret (v := .tuple #[.slice al (cnT k 4) cl, .int .i64 0]) (by simp [results, Try.results23, go_sem, *]) rfl (Or.inr ⟨al, cl, by rw [HL.out], by rw [HL.out]; exact HCRR.out, HAL.out, HBL.out.trans (HB.out.mono HBL.out.size)⟩)
      have hlt2 : (p : Int) < 2 := by omega
      go_wp2_with fail
      obtain ⟨w3, hw3⟩ : ∃ z, z = wr := ⟨wr, rfl⟩
      subst hw3
      go_loopg [11, 46] 2 (fun gg v11 v46 wr => ∃ q : Nat, v46 = .int .i64 q ∧ q ≤ 2 ∧ Hid (2 - q ≤ gg) ∧ Hid (wr.ownsRow w2.heap.size 48 3 v11 (cnT k (2 * p + q)) (rwT k (2 * p + q))) ∧ Hid (Below w2.heap.size w2 wr))
      case atStart => exact ⟨0, rfl, by omega, Lib.hid (Nat.le_refl _), HO, HB⟩
      case round =>
        obtain ⟨q, rfl, hq, HG, HO', HB'⟩ := hrel
        clear HO HB
        have HGI : Hid (2 - q ≤ gk) := Lib.hid HG.out
        clear HG
        by_cases hlq : q < 2
        case neg =>
          obtain rfl : q = 2 := by omega
          go_wp2_with fail
          go_roundg (2 - (p + 1))
          case measure => have := HGG.out; omega
          case rel => exact ⟨p + 1, by go_num, by omega, Lib.hid (Nat.le_refl _), HO', HB'⟩
        have hlq2 : (q : Int) < 2 := by omega
        have HT3 : Hid (TMap wr bT k (tmG k)) := Lib.hid (HTL.out.keep (HB'.out.block _ hTz))
        have hl := HT3.out.look timK in_ok (wf7 (x := p) (by omega) (by omega)) (wf7 (x := q) (by omega) (by omega))
        have hbz := HB'.out.size
        by_cases hpq : (p = 0 ∧ q = 1) ∧ 0 < k
        case neg =>
          obtain ⟨nn, hnn, hn0⟩ : ∃ nn : Int, tmG k p q = .int .i64 nn ∧ ¬ nn > 0 := by
            unfold tmG
            split
            · exact ⟨k, rfl, by omega⟩
            · exact ⟨0, rfl, by omega⟩
          rw [hnn] at hl
          clear hnn
          have HNP := Lib.hid hpq
          clear hpq
          go_wp2_with fail
          go_roundg (2 - (q + 1))
          case measure => have := HGI.out; omega
          case rel =>
            refine ⟨q + 1, by go_num, by omega, Lib.hid (Nat.le_refl _), Lib.hid ?_, HB'⟩
            have e1 : cnT k (2 * p + (q + 1)) = cnT k (2 * p + q) := by
              have := HNP.out
              unfold cnT
              split <;> split <;> omega
            have e2 : rwT k (2 * p + (q + 1)) = rwT k (2 * p + q) := by
              have := HNP.out
              unfold rwT
              split <;> split <;> first | rfl | omega
            rw [e1, e2]
            exact HO'.out
        obtain ⟨⟨rfl, rfl⟩, hk0⟩ := hpq
        clear hl
        have hl := HT3.out.look timK in_ok (wf7 (x := 0) (by omega) (by omega)) (wf7 (x := 1) (by omega) (by omega))
        have hnn : tmG k 0 1 = .int .i64 k := rfl
        rw [hnn] at hl
        have hkp : (k : Int) > 0 := by omega
        have e1 : cnT k (2 * 0 + 1) = 0 := by unfold cnT; rw [if_neg (by omega)]
        have e2 : rwT k (2 * 0 + 1) = [] := by unfold rwT; rw [if_neg (by omega)]
        rw [e1, e2] at HO'
        clear hnn e1 e2
        go_upto_region 19 with fail
        refine wp_region_lit ?_
        refine wpList_step (fun K hK => ?_); go_simp; refine hK _ _ ?_; clear hK K
        refine wpList_step (fun K hK => ?_); go_simp; refine hK _ _ ?_; clear hK K
        refine wpList_step (fun K hK => ?_); go_simp; refine hK _ _ ?_; clear hK K
        refine wpList_step (fun K hK => ?_); go_simp; refine hK _ _ ?_; clear hK K
        refine wpList_step (fun K hK => ?_); go_simp; refine hK _ _ ?_; clear hK K
        refine wpList_step (fun K hK => ?_); go_simp; refine hK _ _ ?_; clear hK K
        have hNB : (wr.alloc (.cells #[.int .i64 0, .int .i64 1, .int .i64 k] 48)).heap[wr.heap.size]? = some (.cells #[.int .i64 0, .int .i64 1, .int .i64 k] 48 (0, 0)) := heap_alloc_new wr _
        refine wpList_append_own _ rfl _ _ 45 rfl w2.heap.size 48 i0 _ 3 24 Try.underlying45 HI.out.1 HI.out.2.1 HI.out.2.2.1 HI.out.2.2.2 (by rfl) (by decide) u11 0 [] (by rfl) (HO'.out.alloc _) ⟨wr.heap.size, 0, none⟩ 1 1 [.int .i64 0, .int .i64 1, .int .i64 k] (by rfl) rfl (fun j u hu => World.news_of_block (cs := #[.int .i64 0, .int .i64 1, .int .i64 k]) hNB j u hu) (by intro u hu; simp only [List.mem_cons, List.not_mem_nil, or_false] at hu; rcases hu with rfl | rfl | rfl <;> rfl) (by unfold maxLen; omega) (by omega) (by simp; omega) ?_
        intro v' w9 hown' hgrow hnil
        have hlb := HO'.out.lt
        have HB9 : Hid (Below w2.heap.size w2 w9) := Lib.hid ((HB'.out.alloc (by omega) _).grown hgrow (by simp; omega) (fun k hk => by have := (hlb k hk).1; omega))
        have HO9 : Hid (w9.ownsRow w2.heap.size 48 3 v' (cnT k (2 * 0 + (1 + 1))) (rwT k (2 * 0 + (1 + 1)))) := Lib.hid (by
          have e1 : cnT k (2 * 0 + (1 + 1)) = 1 := by unfold cnT; rw [if_pos ⟨hk0, by omega⟩]
          have e2 : rwT k (2 * 0 + (1 + 1)) = [.int .i64 0, .int .i64 1, .int .i64 k] := by unfold rwT; rw [if_pos ⟨hk0, by omega⟩]
          rw [e1, e2]
          exact hown')
        clear hown' hgrow hnil hlb hNB HO' HB'
        refine wpList_step (fun K hK => ?_); go_simp; refine hK _ _ ?_; clear hK K
        refine wpList_nil ?_
        go_wp2_with fail
        go_roundg (2 - (1 + 1))
        case measure => have := HGI.out; omega
        case rel => exact ⟨1 + 1, by go_num, by omega, Lib.hid (Nat.le_refl _), HO9, HB9⟩
end Go.Proofs.Ytkkcnhhfdicppaa
