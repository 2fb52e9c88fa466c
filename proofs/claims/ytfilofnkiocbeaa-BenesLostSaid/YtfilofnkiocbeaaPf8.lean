import Derived.Test.YtfilofnkiocbeaaPe8
import Derived.Laws.AppendOwnNone
namespace Go.Proofs.Ytfilofnkiocbeaa
open Go.RowKit Ben Prm
theorem ins_list (f : Nat → Int) (x : Int) {i k : Nat} (h : i ≤ k) : (cellsI f i ++ [.int .i64 x]) ++ (cellsI f k).drop i = cellsI (insF f i x) (k + 1) := by
  apply List.ext_getElem?
  intro j
  by_cases e0 : j < k + 1
  · rw [cellsI_get _ e0]
    by_cases e1 : j < i
    · rw [List.append_assoc, List.getElem?_append_left (by rw [cellsI_len]; exact e1), cellsI_get f e1, insF_lo e1]
    · by_cases e2 : j = i
      · subst e2
        rw [List.append_assoc, List.getElem?_append_right (by rw [cellsI_len]; omega), cellsI_len, Nat.sub_self, insF_at]
        rfl
      · rw [List.getElem?_append_right (by simp [cellsI_len]; omega)]
        have e3 : (cellsI f i ++ [Value.int .i64 x]).length = i + 1 := by simp [cellsI_len]
        rw [e3, cellsI_drop f k i _ (by omega), insF_hi (by omega), show i + (j - (i + 1)) = j - 1 by omega]
  · rw [List.getElem?_eq_none (by simp [cellsI_len]; omega), List.getElem?_eq_none (by rw [cellsI_len]; omega)]
set_option maxRecDepth 100000 in
set_option maxHeartbeats 4000000 in
theorem rPerms_zero (w : World) :
    Calls Try.prog 46 #[.int .i64 ((0 : Nat) : Int)] w fun e w' => PmsR w.heap.size 0 w' e ∧ Below w.heap.size w w' := by
  go_enter Try.func46, Try.ntmps46
  go_wp2_with fail
  go_returns
  refine ⟨⟨w.heap.size, 1, w.heap.size + 1, fun _ => none, fun _ => 0, rfl, ⟨?_, fun j hj => ⟨Nat.le_refl _, by omega, .inl ⟨rfl, rfl, rfl⟩⟩, fun b e => ?_, by simp⟩⟩, (Below.refl _ _).alloc (Nat.le_refl _) _⟩
  · exact ⟨rfl, .inr ⟨w.heap.size, 1, _, rfl, Nat.le_refl _, heap_alloc_new w _, Nat.le_refl _, by unfold maxLen; omega, rfl, rfl⟩⟩
  · simp [Value.ownBlock] at e; omega
set_option maxRecDepth 100000 in
set_option maxHeartbeats 16000000 in
theorem rPerms_succ (k N : Nat) (hk : 1 ≤ k ∧ k ≤ 3) (hN : N = k + 1) (ih : ∀ w, Calls Try.prog 46 #[.int .i64 (k : Int)] w fun e w' => PmsR w.heap.size k w' e ∧ Below w.heap.size w w') (w : World) :
    Calls Try.prog 46 #[.int .i64 (N : Int)] w fun e w' => PmsR w.heap.size (k + 1) w' e ∧ Below w.heap.size w w' := by
  obtain ⟨i2, hi2, hz02, hz12, hz22⟩ := info_parts infoSl
  have HSL := Lib.hid (And.intro hi2 (And.intro hz02 (And.intro hz12 hz22)))
  obtain ⟨i0, hi, hz0, hz1, hz2⟩ := info_parts infoInt
  have HI := Lib.hid (And.intro hi (And.intro hz0 (And.intro hz1 hz2)))
  have HN := Lib.hid (And.intro hk hN)
  have IH := Lib.hid ih
  have n0 : ¬ ((N : Int) = 0) := by omega
  have n1 : wrap64 ((N : Int) - 1) = (k : Int) := by unfold wrap64; omega
  have kN : (k : Int) < (N : Int) := by omega
  have k4 : (k : Int) < 4 := by omega
  clear hi2 hz02 hz12 hz22 hi hz0 hz1 hz2 hk hN ih
  go_enter Try.func46, Try.ntmps46
  go_wp2_with fail
  (try rw [n1])
  refine (IH.out _).mono ?_
  rintro e wo ⟨⟨gl, cl, top, A, C, rfl, hV⟩, hB⟩
  have HV := Lib.hid hV
  have HB := Lib.hid hB
  have HTOP : Hid (top ≤ wo.heap.size) := Lib.hid hV.top
  obtain ⟨m, hm⟩ : ∃ m, fc k = m := ⟨_, rfl⟩
  have hm1 : 1 ≤ m := by rw [← hm]; exact fc_pos k
  have hm24 : m ≤ 24 := by
    have : k = 0 ∨ k = 1 ∨ k = 2 ∨ k = 3 := by omega
    rw [← hm]
    rcases this with rfl | rfl | rfl | rfl <;> decide
  rw [hm] at HV
  rw [hm]
  have HMM := Lib.hid (And.intro hm (And.intro hm1 hm24))
  clear hm hV hB
  go_wp2_with fail
  go_loopw [3, 15] (fun lv iv wr => ∃ (V' : Value) (j top' : Nat) (A' : Nat → Option Addr) (C' : Nat → Nat), V' = lv ∧ iv = .int .i64 (j : Int) ∧ j ≤ m ∧ Hid (RowsN wr wo.heap.size top' V' (j * (k + 1)) (k + 1) A' C' (prF (k + 1))) ∧ Hid (Below wo.heap.size wo wr)) (fun _ iv _ => m - (intOf iv).toNat)
  case atStart => exact ⟨_, 0, wo.heap.size, fun _ => none, fun _ => 0, rfl, rfl, Nat.zero_le _, Lib.hid (by rw [Nat.zero_mul]; exact RowsN.nil _ _ _ _ _ _), Lib.hid (Below.refl _ _)⟩
  case round =>
        obtain ⟨V', j, top', A', C', rfl, rfl, hj, HV', HB'⟩ := hrel
        obtain ⟨wq, hw⟩ : ∃ z, z = wr := ⟨wr, rfl⟩
        subst hw
        by_cases hlt : j < m
        · have hlt' : (j : Int) < (m : Int) := by omega
          have j0 : (0 : Int) ≤ (j : Int) := by omega
          have jt : (j : Int).toNat = j := by omega
          have j24 : (j : Int) < 24 := by omega
          have HVl := Lib.hid (HV.out.keep HB'.out)
          have HR := Lib.hid (HV.out.row j hlt)
          have c0 : wq.cell? ⟨gl, j, none⟩ = some (.slice (A j) k (C j)) := (HVl.out.own.cellAt j (by omega)).trans (rowsN_get A k C hlt)
          have c1 : wq.frozen? ⟨gl, j, none⟩ = false := HVl.out.own.frozenAt _
          have HJ := Lib.hid (And.intro hj hlt)
          obtain ⟨f, hf⟩ : ∃ f, prF k j = f := ⟨_, rfl⟩
          obtain ⟨c, hc⟩ : ∃ c, C j = c := ⟨_, rfl⟩
          obtain ⟨ao, hao⟩ : ∃ ao, A j = ao := ⟨_, rfl⟩
          have HP : Hid (∀ i, i < k + 1 → prF (k + 1) (j * (k + 1) + i) = insF f i (k : Int)) := Lib.hid (fun i hi => by rw [← hf]; exact prF_at k j i hi)
          rw [hc, hao] at c0
          rw [hf, hc, hao] at HR
          clear hj hlt hf hc hao
          go_wp2_with fail
          go_loopw [3, 6] (fun lv iv wr => ∃ (V' : Value) (i top' : Nat) (A' : Nat → Option Addr) (C' : Nat → Nat), V' = lv ∧ iv = .int .i64 (i : Int) ∧ i ≤ k + 1 ∧ Hid (RowsN wr wo.heap.size top' V' (j * (k + 1) + i) (k + 1) A' C' (prF (k + 1))) ∧ Hid (Below wo.heap.size wo wr)) (fun _ iv _ => (k + 1) - (intOf iv).toNat)
          case atStart => exact ⟨_, 0, top', A', C', rfl, rfl, Nat.zero_le _, HV', HB'⟩
          case round =>
            obtain ⟨V2, i, top2, A2, C2, rfl, rfl, hi, HV2, HB2⟩ := hrel
            clear HV'
            by_cases hlt : i < k + 1
            · have hlt' : (i : Int) < (N : Int) := by have := HN.out; omega
              have i0' : (0 : Int) ≤ (i : Int) := by omega
              have it : (i : Int).toNat = i := by omega
              have i4 : (i : Int) < 4 := by omega
              have HIK := Lib.hid (And.intro hi hlt)
              have hbl := HB2.out
              obtain ⟨M, hM⟩ : ∃ M, j * (k + 1) + i = M := ⟨_, rfl⟩
              have hM1 : M ≤ 200 := by
                have h1 : j * (k + 1) ≤ 24 * 5 := Nat.mul_le_mul (by omega) (by omega)
                omega
              rw [hM] at HV2
              have HNN := Lib.hid (And.intro hM hM1)
              have hs1 := HV2.out.top
              have hs2 := HB2.out.size
              have HSZ : Hid (top2 ≤ wr.heap.size ∧ wo.heap.size ≤ wr.heap.size) := Lib.hid ⟨hs1, by omega⟩
              have HRR := Lib.hid (HR.out.keep hbl)
              clear hi hlt hM hM1 hs1 hs2 hbl c0 c1
              rcases HRR.out.2.2 with ⟨hk0, rfl, rfl⟩ | ⟨b, rfl, hcc, hb1, hb2, _, hpos⟩
              · exact absurd hk0 (by have := HN.out; omega)
              · have HC := Lib.hid hcc
                have ikn : i ≤ k := by have := HIK.out; omega
                have hck : k ≤ c := HRR.out.1
                have hcm : c ≤ 9223372036854775807 := HRR.out.2.1
                have ick : i ≤ c := Nat.le_trans ikn hck
                have ick' : (i : Int) ≤ (c : Int) := by omega
                have HIK2 := Lib.hid ikn
                have ikn' : (i : Int) ≤ (k : Int) := by omega
                have hbl : b < wo.heap.size := by have := HTOP.out; omega
                clear hcc hb1 hb2
                go_wp2_with (at_builtin; refine wpList_append_own _ rfl (.tmp 24) (.tmp 27) 28 rfl wr.heap.size 3 i0 _ 1 8 Try.underlying28 HI.out.1 HI.out.2.1 HI.out.2.2.1 HI.out.2.2.2 rfl (by decide) _ 0 [] rfl (World.ownsRow_nil _ _ _ _) ⟨b, 0, none⟩ i c (cellsI f i) rfl ?c0 ?c1 ?c2 ?c3 ?c4 ?c5 ?_)
                case c0 => rw [cellsI_len]; omega
                case c1 =>
                  intro q u hu
                  have hq : q < i := by have := (List.getElem?_eq_some_iff.1 hu).1; rwa [cellsI_len] at this
                  rw [cellsI_get f hq] at hu
                  rw [Addr.add_lit, ← hu, Nat.zero_add]
                  exact (HC.out q (by omega)).1
                case c2 => exact cellsI_one f i
                case c3 => unfold maxLen; omega
                case c4 => omega
                try (case c5 => first | exact Nat.le_refl _ | omega)
                intro v1 w1 hown1 hgr1 _
                (try simp only [Nat.zero_add, List.nil_append] at hown1)
                have D1 : Below wr.heap.size wr w1 := (Below.refl _ _).grown hgr1 (Nat.le_refl _) (fun p hp => by cases hp)
                have HO1 := Lib.hid (hown1.alloc (.cells #[.int .i64 (k : Int)] 3))
                clear hown1 hgr1
                go_wp2_with (at_builtin; refine wpList_append_own _ rfl (.tmp 29) (.tmp 32) 28 rfl wr.heap.size 3 i0 _ 1 8 Try.underlying28 HI.out.1 HI.out.2.1 HI.out.2.2.1 HI.out.2.2.2 rfl (by decide) v1 i (cellsI f i) rfl HO1.out ⟨w1.heap.size, 0, none⟩ 1 1 [.int .i64 (k : Int)] rfl rfl ?d1 ?d2 ?d3 ?d4 ?d5 ?_)
                try (case d1 => exact fun j u hu => World.news_of_block (cs := #[.int .i64 (k : Int)]) (heap_new w1 _) j u hu)
                try (case d2 => first | (intro u hu; simp only [List.mem_cons, List.not_mem_nil, or_false] at hu; subst hu; rfl) | rfl)
                try (case d3 => unfold maxLen; omega)
                try (case d4 => omega)
                try (case d5 => have := D1.size; simp; omega)
                intro v2 w2 hown2 hgr2 _
                have D2 : Below wr.heap.size wr w2 := (D1.alloc D1.size _).grown hgr2 (by have := D1.size; simp; omega) (fun p hp => (HO1.out.lt p hp).1)
                have HO2 := Lib.hid hown2
                have HC2 := Lib.hid (HC.out.keep D2)
                clear hown2 hgr2 HO1 D1
                by_cases hci : c = i
                · have hki : k = i := by omega
                  subst hci
                  have hki' : k - c = 0 := by omega
                  have HKI := Lib.hid hki
                  clear hki
                  go_wp2_with (at_builtin; refine wpList_append_own _ rfl (.tmp 34) (.tmp 37) 28 rfl wr.heap.size 3 i0 _ 1 8 Try.underlying28 HI.out.1 HI.out.2.1 HI.out.2.2.1 HI.out.2.2.2 rfl (by decide) v2 (c + 1) (cellsI f c ++ [.int .i64 (k : Int)]) rfl HO2.out ⟨b, 0, none⟩ 0 0 ([]) rfl ?c0p ?c1p ?c2p ?c3p ?c4p ?c5p ?_)
                  case c0p => rfl
                  case c1p => intro q u hu; cases hu
                  case c2p => intro u hu; cases hu
                  case c3p => unfold maxLen; have := HIK.out; omega
                  case c4p => have := HIK.out; omega
                  try (case c5p => exact D2.size)
                  intro v3 w3 hown3 hgr3 _
                  have D3 : Below wr.heap.size wr w3 := D2.grown hgr3 D2.size (fun p hp => (HO2.out.lt p hp).1)
                  have hO3 : w3.ownsRow wr.heap.size 3 1 v3 (k + 1) (cellsI (insF f c (k : Int)) (k + 1)) := by
                    rw [← ins_list f (k : Int) HIK2.out, show k + 1 = c + 1 by have := HKI.out; omega, List.drop_eq_nil_of_le (by have := HKI.out; rw [cellsI_len]; omega), List.append_nil]
                    exact hown3
                  obtain ⟨g3, cap3, rfl, hg3, hl3, hc3, hm3⟩ := own_fm hO3 (by omega)
                  have hW3 : Intw w3 g3 (k + 1) (insF f c (k : Int)) := Intw.of_own hO3 fun q hq => cellsI_get _ hq
                  clear hown3 hgr3 hO3 HO2 D2
                  have hbr : Below w3.heap.size w3 (w3.alloc (.cells #[.slice (some ⟨g3, 0, none⟩) (k + 1) cap3] 28)) := (Below.refl _ _).alloc (Nat.le_refl _) _
                  have HVA := Lib.hid (HV2.out.keep (D3.trans (hbr.mono D3.size)))
                  have HWA := Lib.hid (hW3.keep hbr)
                  have HG := Lib.hid (And.intro hg3 (And.intro hl3 (And.intro hc3 hm3)))
                  have HD3 := Lib.hid (D3.trans (hbr.mono D3.size))
                  clear hW3 hg3 hl3 hc3 hm3 hbr HV2 HRR
                  go_wp2_with (at_builtin; refine wpList_append_lies _ rfl (.tmp 39) (.tmp 41) 52 rfl wo.heap.size 28 i2 _ 1 24 Try.underlying52 HSL.out.1 HSL.out.2.1 HSL.out.2.2.1 HSL.out.2.2.2 rfl (by decide) V2 M (rowsN A2 (k + 1) C2 M) rfl HVA.out.own ⟨w3.heap.size, 0, none⟩ 1 1 [.slice (some ⟨g3, 0, none⟩) (k + 1) cap3] rfl rfl ?e1q ?e2q (by omega) ?e3q ?e4q ?e5q _ rfl ?_)
                  try (case e1q => exact fun j u hu => World.news_of_block (cs := #[.slice (some ⟨g3, 0, none⟩) (k + 1) cap3]) (heap_new w3 _) j u hu)
                  try (case e2q => first | (intro u hu; simp only [List.mem_cons, List.not_mem_nil, or_false] at hu; subst hu; rfl) | rfl)
                  case e3q => unfold maxLen; have h8 := HNN.out; omega
                  case e4q => have h8 := HNN.out; omega
                  try (case e5q => have h8 := HSZ.out; have h9 := D3.size; simp; omega)
                  intro g' cap2 w5 hown' hgrow hor hlg
                  have hlt5 := HVA.out.own.lt
                  have HV5 : Hid (RowsN w5 wo.heap.size w5.heap.size (.slice (some ⟨g', 0, none⟩) (M + 1) cap2) (j * (k + 1) + (c + 1)) (k + 1) (updA A2 M (some ⟨g3, 0, none⟩)) (updN C2 M cap3) (prF (k + 1))) := Lib.hid (by
                    have h8 := HNN.out
                    have h9 := HSZ.out
                    have h10 := HG.out
                    rw [show j * (k + 1) + (c + 1) = M + 1 by omega]
                    exact (HVA.out.append (by omega) HWA.out h10.2.2.1 h10.2.2.2 (by omega) (by omega) (by simp; omega) hown' hgrow (hor.imp id (fun h => by first | exact Nat.le_of_eq h.symm | (simp at h ⊢; omega) | (simp; omega) | omega)) hlg).congr (fun t ht q hq => by
                      by_cases e : t = M
                      · subst e
                        rw [if_pos rfl, ← h8.1, HP.out c HIK.out.2]
                      · rw [if_neg e]))
                  have HB5 : Hid (Below wo.heap.size wo w5) := Lib.hid ((HB2.out.trans (HD3.out.mono HB2.out.size)).grown hgrow (by have h8 := HB2.out.size; have h9 := HD3.out.size; omega) (fun p hp => (hlt5 p hp).1))
                  clear hown' hgrow hor hlt5 HVA HWA HD3 D3 hlg HB2
                  go_wp2_with fail
                  go_roundw
                  case rel => exact ⟨_, c + 1, _, _, _, rfl, by first | rfl | go_num, by have h8 := HIK.out; omega, HV5, HB5⟩
                  case measure => have h8 := HIK.out; first | (simp [intOf]; done) | (simp [intOf]; omega)
                · have hci' : ¬ i = c := fun e => hci e.symm
                  go_wp2_with (at_builtin; refine wpList_append_own _ rfl (.tmp 34) (.tmp 37) 28 rfl wr.heap.size 3 i0 _ 1 8 Try.underlying28 HI.out.1 HI.out.2.1 HI.out.2.2.1 HI.out.2.2.2 rfl (by decide) v2 (i + 1) (cellsI f i ++ [.int .i64 (k : Int)]) rfl HO2.out ⟨b, i, none⟩ (k - i) (c - i) ((cellsI f k).drop i) rfl ?c0r ?c1r ?c2r ?c3r ?c4r ?c5r ?_)
                  case c0r => rw [List.length_drop, cellsI_len]; omega
                  case c1r =>
                    intro q u hu
                    have hq : i + q < k := by have := (List.getElem?_eq_some_iff.1 hu).1; rw [List.length_drop, cellsI_len] at this; omega
                    rw [cellsI_drop f k i q hq] at hu
                    rw [Addr.add_lit, ← hu]
                    exact (HC2.out (i + q) hq).1
                  case c2r => exact fun u hu => cellsI_one f k u (List.mem_of_mem_drop hu)
                  case c3r => unfold maxLen; have := HIK.out; omega
                  case c4r => have := HIK.out; omega
                  try (case c5r => exact D2.size)
                  intro v3 w3 hown3 hgr3 _
                  have D3 : Below wr.heap.size wr w3 := D2.grown hgr3 D2.size (fun p hp => (HO2.out.lt p hp).1)
                  have hO3 : w3.ownsRow wr.heap.size 3 1 v3 (k + 1) (cellsI (insF f i (k : Int)) (k + 1)) := by
                    rw [← ins_list f (k : Int) HIK2.out, show k + 1 = i + 1 + (k - i) by omega, List.append_assoc]
                    exact hown3
                  obtain ⟨g3, cap3, rfl, hg3, hl3, hc3, hm3⟩ := own_fm hO3 (by omega)
                  have hW3 : Intw w3 g3 (k + 1) (insF f i (k : Int)) := Intw.of_own hO3 fun q hq => cellsI_get _ hq
                  clear hown3 hgr3 hO3 HO2 D2
                  have hbr : Below w3.heap.size w3 (w3.alloc (.cells #[.slice (some ⟨g3, 0, none⟩) (k + 1) cap3] 28)) := (Below.refl _ _).alloc (Nat.le_refl _) _
                  have HVA := Lib.hid (HV2.out.keep (D3.trans (hbr.mono D3.size)))
                  have HWA := Lib.hid (hW3.keep hbr)
                  have HG := Lib.hid (And.intro hg3 (And.intro hl3 (And.intro hc3 hm3)))
                  have HD3 := Lib.hid (D3.trans (hbr.mono D3.size))
                  clear hW3 hg3 hl3 hc3 hm3 hbr HV2 HRR
                  go_wp2_with (at_builtin; refine wpList_append_lies _ rfl (.tmp 39) (.tmp 41) 52 rfl wo.heap.size 28 i2 _ 1 24 Try.underlying52 HSL.out.1 HSL.out.2.1 HSL.out.2.2.1 HSL.out.2.2.2 rfl (by decide) V2 M (rowsN A2 (k + 1) C2 M) rfl HVA.out.own ⟨w3.heap.size, 0, none⟩ 1 1 [.slice (some ⟨g3, 0, none⟩) (k + 1) cap3] rfl rfl ?e1s ?e2s (by omega) ?e3s ?e4s ?e5s _ rfl ?_)
                  try (case e1s => exact fun j u hu => World.news_of_block (cs := #[.slice (some ⟨g3, 0, none⟩) (k + 1) cap3]) (heap_new w3 _) j u hu)
                  try (case e2s => first | (intro u hu; simp only [List.mem_cons, List.not_mem_nil, or_false] at hu; subst hu; rfl) | rfl)
                  case e3s => unfold maxLen; have h8 := HNN.out; omega
                  case e4s => have h8 := HNN.out; omega
                  try (case e5s => have h8 := HSZ.out; have h9 := D3.size; simp; omega)
                  intro g' cap2 w5 hown' hgrow hor hlg
                  have hlt5 := HVA.out.own.lt
                  have HV5 : Hid (RowsN w5 wo.heap.size w5.heap.size (.slice (some ⟨g', 0, none⟩) (M + 1) cap2) (j * (k + 1) + (i + 1)) (k + 1) (updA A2 M (some ⟨g3, 0, none⟩)) (updN C2 M cap3) (prF (k + 1))) := Lib.hid (by
                    have h8 := HNN.out
                    have h9 := HSZ.out
                    have h10 := HG.out
                    rw [show j * (k + 1) + (i + 1) = M + 1 by omega]
                    exact (HVA.out.append (by omega) HWA.out h10.2.2.1 h10.2.2.2 (by omega) (by omega) (by simp; omega) hown' hgrow (hor.imp id (fun h => by first | exact Nat.le_of_eq h.symm | (simp at h ⊢; omega) | (simp; omega) | omega)) hlg).congr (fun t ht q hq => by
                      by_cases e : t = M
                      · subst e
                        rw [if_pos rfl, ← h8.1, HP.out i HIK.out.2]
                      · rw [if_neg e]))
                  have HB5 : Hid (Below wo.heap.size wo w5) := Lib.hid ((HB2.out.trans (HD3.out.mono HB2.out.size)).grown hgrow (by have h8 := HB2.out.size; have h9 := HD3.out.size; omega) (fun p hp => (hlt5 p hp).1))
                  clear hown' hgrow hor hlt5 HVA HWA HD3 D3 hlg HB2
                  go_wp2_with fail
                  go_roundw
                  case rel => exact ⟨_, i + 1, _, _, _, rfl, by first | rfl | go_num, by have h8 := HIK.out; omega, HV5, HB5⟩
                  case measure => have h8 := HIK.out; first | (simp [intOf]; done) | (simp [intOf]; omega)
            · have hki : i = k + 1 := by omega
              subst hki
              have hnl : ¬ (((k + 1 : Nat) : Int) < (N : Int)) := by have := HN.out; omega
              have HV6 : Hid (RowsN wr wo.heap.size top2 V2 ((j + 1) * (k + 1)) (k + 1) A2 C2 (prF (k + 1))) := Lib.hid (by rw [Nat.succ_mul]; exact HV2.out)
              have HB6 := HB2
              clear hi hlt HV2 HB2 HB' c0 c1
              go_wp2_with fail
              go_roundw
              case rel => exact ⟨_, j + 1, _, _, _, rfl, by first | rfl | go_num, by have h8 := HJ.out; omega, HV6, HB6⟩
              case measure => have h8 := HJ.out; first | (simp [intOf]; done) | (simp [intOf]; omega)
        · have hjm : j = m := by omega
          subst hjm
          have hnl : ¬ ((j : Int) < (j : Int)) := Int.lt_irrefl _
          have HV6 : Hid (RowsN wq w.heap.size top' V' (fc (k + 1)) (k + 1) A' C' (prF (k + 1))) := Lib.hid (by
            show RowsN wq w.heap.size top' V' (fc k * (k + 1)) (k + 1) A' C' (prF (k + 1))
            rw [HMM.out.1]
            exact HV'.out.base HB.out.size)
          have HB6 : Hid (Below w.heap.size w wq) := Lib.hid (HB.out.trans (HB'.out.mono HB.out.size))
          obtain ⟨gV, cV, rfl, _, _, _, _⟩ := own_fm HV6.out.own (fc_pos (k + 1))
          have HR : Hid (PmsR w.heap.size (k + 1) wq (.returned (.slice (some ⟨gV, 0, none⟩) (fc (k + 1)) cV))) := Lib.hid ⟨gV, cV, top', A', C', rfl, HV6.out⟩
          clear hj hlt HV' HB' HV HB HTOP HV6
          go_wp2_with fail
          refine bodyPost_ret (v := .slice (some ⟨gV, 0, none⟩) (fc (k + 1)) cV) (by simp [results, Try.results46, go_sem]) rfl ⟨HR.out, HB6.out⟩
set_option maxRecDepth 100000 in
set_option maxHeartbeats 16000000 in
theorem rPerms_one (N : Nat) (hN : N = 0 + 1) (ih : ∀ w, Calls Try.prog 46 #[.int .i64 (0 : Int)] w fun e w' => PmsR w.heap.size 0 w' e ∧ Below w.heap.size w w') (w : World) :
    Calls Try.prog 46 #[.int .i64 (N : Int)] w fun e w' => PmsR w.heap.size (0 + 1) w' e ∧ Below w.heap.size w w' := by
  obtain ⟨i2, hi2, hz02, hz12, hz22⟩ := info_parts infoSl
  have HSL := Lib.hid (And.intro hi2 (And.intro hz02 (And.intro hz12 hz22)))
  obtain ⟨i0, hi, hz0, hz1, hz2⟩ := info_parts infoInt
  have HI := Lib.hid (And.intro hi (And.intro hz0 (And.intro hz1 hz2)))
  have HN := Lib.hid (And.intro (Nat.zero_le 3) hN)
  have IH := Lib.hid ih
  have n0 : ¬ ((N : Int) = 0) := by omega
  have n1 : wrap64 ((N : Int) - 1) = (0 : Int) := by unfold wrap64; omega
  have kN : (0 : Int) < (N : Int) := by omega
  have k4 : (0 : Int) < 4 := by omega
  clear hi2 hz02 hz12 hz22 hi hz0 hz1 hz2 hN ih
  go_enter Try.func46, Try.ntmps46
  go_wp2_with fail
  (try rw [n1])
  refine (IH.out _).mono ?_
  rintro e wo ⟨⟨gl, cl, top, A, C, rfl, hV⟩, hB⟩
  have HV := Lib.hid hV
  have HB := Lib.hid hB
  have HTOP : Hid (top ≤ wo.heap.size) := Lib.hid hV.top
  obtain ⟨m, hm⟩ : ∃ m, fc 0 = m := ⟨_, rfl⟩
  have hm1 : 1 ≤ m := by rw [← hm]; exact fc_pos 0
  have hm24 : m ≤ 24 := by
    rw [← hm]
    decide
  rw [hm] at HV
  rw [hm]
  have HMM := Lib.hid (And.intro hm (And.intro hm1 hm24))
  clear hm hV hB
  go_wp2_with fail
  go_loopw [3, 15] (fun lv iv wr => ∃ (V' : Value) (j top' : Nat) (A' : Nat → Option Addr) (C' : Nat → Nat), V' = lv ∧ iv = .int .i64 (j : Int) ∧ j ≤ m ∧ Hid (RowsN wr wo.heap.size top' V' (j * (0 + 1)) (0 + 1) A' C' (prF (0 + 1))) ∧ Hid (Below wo.heap.size wo wr)) (fun _ iv _ => m - (intOf iv).toNat)
  case atStart => exact ⟨_, 0, wo.heap.size, fun _ => none, fun _ => 0, rfl, rfl, Nat.zero_le _, Lib.hid (by rw [Nat.zero_mul]; exact RowsN.nil _ _ _ _ _ _), Lib.hid (Below.refl _ _)⟩
  case round =>
        obtain ⟨V', j, top', A', C', rfl, rfl, hj, HV', HB'⟩ := hrel
        obtain ⟨wq, hw⟩ : ∃ z, z = wr := ⟨wr, rfl⟩
        subst hw
        by_cases hlt : j < m
        · have hlt' : (j : Int) < (m : Int) := by omega
          have j0 : (0 : Int) ≤ (j : Int) := by omega
          have jt : (j : Int).toNat = j := by omega
          have j24 : (j : Int) < 24 := by omega
          have HVl := Lib.hid (HV.out.keep HB'.out)
          have HR := Lib.hid (HV.out.row j hlt)
          have c0 : wq.cell? ⟨gl, j, none⟩ = some (.slice (A j) 0 (C j)) := (HVl.out.own.cellAt j (by omega)).trans (rowsN_get A 0 C hlt)
          have c1 : wq.frozen? ⟨gl, j, none⟩ = false := HVl.out.own.frozenAt _
          have HJ := Lib.hid (And.intro hj hlt)
          obtain ⟨f, hf⟩ : ∃ f, prF 0 j = f := ⟨_, rfl⟩
          obtain ⟨c, hc⟩ : ∃ c, C j = c := ⟨_, rfl⟩
          obtain ⟨ao, hao⟩ : ∃ ao, A j = ao := ⟨_, rfl⟩
          have HP : Hid (∀ i, i < 0 + 1 → prF (0 + 1) (j * (0 + 1) + i) = insF f i (0 : Int)) := Lib.hid (fun i hi => by rw [← hf]; exact prF_at 0 j i hi)
          rw [hc, hao] at c0
          rw [hf, hc, hao] at HR
          clear hj hlt hf hc hao
          go_wp2_with fail
          go_loopw [3, 6] (fun lv iv wr => ∃ (V' : Value) (i top' : Nat) (A' : Nat → Option Addr) (C' : Nat → Nat), V' = lv ∧ iv = .int .i64 (i : Int) ∧ i ≤ 0 + 1 ∧ Hid (RowsN wr wo.heap.size top' V' (j * (0 + 1) + i) (0 + 1) A' C' (prF (0 + 1))) ∧ Hid (Below wo.heap.size wo wr)) (fun _ iv _ => (0 + 1) - (intOf iv).toNat)
          case atStart => exact ⟨_, 0, top', A', C', rfl, rfl, Nat.zero_le _, HV', HB'⟩
          case round =>
            obtain ⟨V2, i, top2, A2, C2, rfl, rfl, hi, HV2, HB2⟩ := hrel
            clear HV'
            by_cases hlt : i < 0 + 1
            · have hlt' : (i : Int) < (N : Int) := by have := HN.out; omega
              have i0' : (0 : Int) ≤ (i : Int) := by omega
              have it : (i : Int).toNat = i := by omega
              have i4 : (i : Int) < 4 := by omega
              have HIK := Lib.hid (And.intro hi hlt)
              have hbl := HB2.out
              obtain ⟨M, hM⟩ : ∃ M, j * (0 + 1) + i = M := ⟨_, rfl⟩
              have hM1 : M ≤ 200 := by
                have h1 : j * (0 + 1) ≤ 24 * 5 := Nat.mul_le_mul (by omega) (by omega)
                omega
              rw [hM] at HV2
              have HNN := Lib.hid (And.intro hM hM1)
              have hs1 := HV2.out.top
              have hs2 := HB2.out.size
              have HSZ : Hid (top2 ≤ wr.heap.size ∧ wo.heap.size ≤ wr.heap.size) := Lib.hid ⟨hs1, by omega⟩
              have HRR := Lib.hid (HR.out.keep hbl)
              clear hi hlt hM hM1 hs1 hs2 hbl c0 c1
              rcases HRR.out.2.2 with ⟨hk0, rfl, rfl⟩ | ⟨b, rfl, hcc, hb1, hb2, _, hpos⟩
              · have hi0 : i = 0 := by have := HIK.out; omega
                subst hi0
                go_wp2_with (at_builtin; refine wpList_append_own _ rfl (.tmp 29) (.tmp 32) 28 rfl wr.heap.size 3 i0 _ 1 8 Try.underlying28 HI.out.1 HI.out.2.1 HI.out.2.2.1 HI.out.2.2.2 rfl (by decide) _ 0 [] rfl (World.ownsRow_nil _ _ _ _) ⟨wr.heap.size, 0, none⟩ 1 1 [.int .i64 (0 : Int)] rfl rfl ?d1x ?d2x ?d3x ?d4x ?d5x ?_)
                try (case d1x => exact fun j u hu => World.news_of_block (cs := #[.int .i64 (0 : Int)]) (heap_new wr _) j u hu)
                try (case d2x => first | (intro u hu; simp only [List.mem_cons, List.not_mem_nil, or_false] at hu; subst hu; rfl) | rfl)
                try (case d3x => unfold maxLen; omega)
                try (case d4x => omega)
                try (case d5x => simp)
                intro v2 w3 hown2 hgr2 _
                have D3 : Below wr.heap.size wr w3 := ((Below.refl _ _).alloc (Nat.le_refl _) _).grown hgr2 (by simp) (fun p hp => by cases hp)
                have HO2 := Lib.hid hown2
                clear hown2 hgr2
                have hO3 : w3.ownsRow wr.heap.size 3 1 v2 (0 + 1) (cellsI (insF f 0 (0 : Int)) (0 + 1)) := HO2.out
                obtain ⟨g3, cap3, rfl, hg3, hl3, hc3, hm3⟩ := own_fm hO3 (by omega)
                have hW3 : Intw w3 g3 (0 + 1) (insF f 0 (0 : Int)) := Intw.of_own hO3 fun q hq => cellsI_get _ hq
                have HOA := Lib.hid hO3
                clear HO2 hO3
                have hbr : Below w3.heap.size w3 (w3.alloc (.cells #[.slice (some ⟨g3, 0, none⟩) (0 + 1) cap3] 28)) := (Below.refl _ _).alloc (Nat.le_refl _) _
                have HVA := Lib.hid (HV2.out.keep (D3.trans (hbr.mono D3.size)))
                have HWA := Lib.hid (hW3.keep hbr)
                have HG := Lib.hid (And.intro hg3 (And.intro hl3 (And.intro hc3 hm3)))
                have HD3 := Lib.hid (D3.trans (hbr.mono D3.size))
                clear hW3 hg3 hl3 hc3 hm3 hbr HV2 HRR
                go_wp2_with (at_builtin; first | refine wpList_append_own_none rfl (.tmp 34) (.tmp 37) 28 rfl wr.heap.size 3 i0 1 Try.underlying28 HI.out.1 _ (0 + 1) _ rfl HOA.out rfl ?_ | refine wpList_append_lies _ rfl (.tmp 39) (.tmp 41) 52 rfl wo.heap.size 28 i2 _ 1 24 Try.underlying52 HSL.out.1 HSL.out.2.1 HSL.out.2.2.1 HSL.out.2.2.2 rfl (by decide) V2 M (rowsN A2 (0 + 1) C2 M) rfl HVA.out.own ⟨w3.heap.size, 0, none⟩ 1 1 [.slice (some ⟨g3, 0, none⟩) (0 + 1) cap3] rfl rfl ?e1x ?e2x (by omega) ?e3x ?e4x ?e5x _ rfl ?_)
                try (case e1x => exact fun j u hu => World.news_of_block (cs := #[.slice (some ⟨g3, 0, none⟩) (0 + 1) cap3]) (heap_new w3 _) j u hu)
                try (case e2x => first | (intro u hu; simp only [List.mem_cons, List.not_mem_nil, or_false] at hu; subst hu; rfl) | rfl)
                case e3x => unfold maxLen; have h8 := HNN.out; omega
                case e4x => have h8 := HNN.out; omega
                try (case e5x => have h8 := HSZ.out; have h9 := D3.size; simp; omega)
                intro g' cap2 w5 hown' hgrow hor hlg
                have hlt5 := HVA.out.own.lt
                have HV5 : Hid (RowsN w5 wo.heap.size w5.heap.size (.slice (some ⟨g', 0, none⟩) (M + 1) cap2) (j * (0 + 1) + (0 + 1)) (0 + 1) (updA A2 M (some ⟨g3, 0, none⟩)) (updN C2 M cap3) (prF (0 + 1))) := Lib.hid (by
                  have h8 := HNN.out
                  have h9 := HSZ.out
                  have h10 := HG.out
                  rw [show j * (0 + 1) + (0 + 1) = M + 1 by omega]
                  exact (HVA.out.append (by omega) HWA.out h10.2.2.1 h10.2.2.2 (by omega) (by omega) (by simp; omega) hown' hgrow (hor.imp id (fun h => by first | exact Nat.le_of_eq h.symm | (simp at h ⊢; omega) | (simp; omega) | omega)) hlg).congr (fun t ht q hq => by
                    by_cases e : t = M
                    · subst e
                      rw [if_pos rfl, ← h8.1, HP.out 0 HIK.out.2]
                      <;> rfl
                    · rw [if_neg e]))
                have HB5 : Hid (Below wo.heap.size wo w5) := Lib.hid ((HB2.out.trans (HD3.out.mono HB2.out.size)).grown hgrow (by have h8 := HB2.out.size; have h9 := HD3.out.size; omega) (fun p hp => (hlt5 p hp).1))
                clear hown' hgrow hor hlt5 HVA HWA HD3 D3 hlg HB2
                go_wp2_with fail
                go_roundw
                case rel => exact ⟨_, 0 + 1, _, _, _, rfl, by first | rfl | go_num, by have h8 := HIK.out; omega, HV5, HB5⟩
                case measure => have h8 := HIK.out; first | (simp [intOf]; done) | (simp [intOf]; omega)
              · exact absurd hpos (by omega)
            · have hki : i = 0 + 1 := by omega
              subst hki
              have hnl : ¬ (((0 + 1 : Nat) : Int) < (N : Int)) := by have := HN.out; omega
              have HV6 : Hid (RowsN wr wo.heap.size top2 V2 ((j + 1) * (0 + 1)) (0 + 1) A2 C2 (prF (0 + 1))) := Lib.hid (by rw [Nat.succ_mul]; exact HV2.out)
              have HB6 := HB2
              clear hi hlt HV2 HB2 HB' c0 c1
              go_wp2_with fail
              go_roundw
              case rel => exact ⟨_, j + 1, _, _, _, rfl, by first | rfl | go_num, by have h8 := HJ.out; omega, HV6, HB6⟩
              case measure => have h8 := HJ.out; first | (simp [intOf]; done) | (simp [intOf]; omega)
        · have hjm : j = m := by omega
          subst hjm
          have hnl : ¬ ((j : Int) < (j : Int)) := Int.lt_irrefl _
          have HV6 : Hid (RowsN wq w.heap.size top' V' (fc (0 + 1)) (0 + 1) A' C' (prF (0 + 1))) := Lib.hid (by
            show RowsN wq w.heap.size top' V' (fc 0 * (0 + 1)) (0 + 1) A' C' (prF (0 + 1))
            rw [HMM.out.1]
            exact HV'.out.base HB.out.size)
          have HB6 : Hid (Below w.heap.size w wq) := Lib.hid (HB.out.trans (HB'.out.mono HB.out.size))
          obtain ⟨gV, cV, rfl, _, _, _, _⟩ := own_fm HV6.out.own (fc_pos (0 + 1))
          have HR : Hid (PmsR w.heap.size (0 + 1) wq (.returned (.slice (some ⟨gV, 0, none⟩) (fc (0 + 1)) cV))) := Lib.hid ⟨gV, cV, top', A', C', rfl, HV6.out⟩
          clear hj hlt HV' HB' HV HB HTOP HV6
          go_wp2_with fail
          refine bodyPost_ret (v := .slice (some ⟨gV, 0, none⟩) (fc (0 + 1)) cV) (by simp [results, Try.results46, go_sem]) rfl ⟨HR.out, HB6.out⟩
end Go.Proofs.Ytfilofnkiocbeaa
