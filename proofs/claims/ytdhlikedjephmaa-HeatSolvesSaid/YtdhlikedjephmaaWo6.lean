import Derived.Test.YtdhlikedjephmaaOw6
namespace Heat
/-- How many of the first k columns are not the column c. -/
def cN (c k : Nat) : Nat := if k ≤ c then k else k - 1
theorem cN_at {c : Nat} : cN c (c + 1) = cN c c := by unfold cN; rw [if_neg (by omega), if_pos (by omega)]; rfl
theorem cN_next {c k : Nat} (h : ¬ k = c) : cN c (k + 1) = cN c k + 1 := by
  unfold cN
  by_cases h1 : k < c
  · rw [if_pos (by omega), if_pos (by omega)]
  · rw [if_neg (by omega), if_neg (by omega)]; omega
theorem mnF_cN {c k r : Nat} {F : Nat → Nat → Int} (h : ¬ k = c) : mnF c F r (cN c k) = F (r + 1) k := by
  unfold mnF cN
  by_cases h1 : k < c
  · rw [if_pos (show k ≤ c by omega), if_pos h1]
  · rw [if_neg (show ¬ k ≤ c by omega), if_neg (by omega), show k - 1 + 1 = k by omega]
theorem cN_end {c n : Nat} (h : c < n) : cN c n = n - 1 := by unfold cN; rw [if_neg (by omega)]
end Heat
namespace Go.Proofs.Ytdhlikedjephmaa
open Go.RowKit Heat
/-- What comes back: a list of n rows of n numbers. -/
def RowR (w : World) (e : Ending) (n : Nat) (F : Nat → Nat → Int) : Prop := ∃ ao cap A c, e = .returned (.slice ao n cap) ∧ Rowsw w ao n A (fun _ => n) c F
set_option maxRecDepth 100000 in
set_option maxHeartbeats 8000000 in
theorem rWithout_any (N cap : Nat) (ao : Option Addr) (A : Nat → Option Addr) (l c : Nat → Nat) (F : Nat → Nat → Int) (col : Nat) (w : World) (hN1 : 1 ≤ N) (hN5 : N ≤ 5) (hl : ∀ i, i < N → l i = N) (hR : Rowsw w ao N A l c F) (hcol : col < N) :
    Calls Try.prog 73 #[.slice ao N cap, .int .i64 col] w fun e w' => RowR w' e (N - 1) (mnF col F) ∧ Below w.heap.size w w' := by
  have HSQ := Lib.hid (hR.sq hl (by omega))
  obtain ⟨i0, hi, hz0, hz1, hz2⟩ := info_parts infoInt
  have HI := Lib.hid (And.intro hi (And.intro hz0 (And.intro hz1 hz2)))
  obtain ⟨i1, hi', hz0', hz1', hz2'⟩ := info_parts infoSl
  have HS := Lib.hid (And.intro hi' (And.intro hz0' (And.intro hz1' hz2')))
  have c00 : (0 : Int) ≤ (col : Int) := by omega
  have HCL := Lib.hid hcol
  clear hl hR hi hz0 hz1 hz2 hi' hz0' hz1' hz2' hcol
  go_enter Try.func73, Try.ntmps73
  go_wp2_with fail
  go_loopw [5, 6] (fun ov iv wr => ∃ (V : Value) (z : Int) (r : Nat) (G C : Nat → Nat), V = ov ∧ iv = .int .i64 z ∧ z = (r : Int) + 1 ∧ r + 1 ≤ N ∧ Hid (RowsO wr w.heap.size V r (N - 1) G C (mnF col F)) ∧ Hid (Below w.heap.size w wr)) (fun _ iv _ => N - (intOf iv).toNat)
  case atStart => exact ⟨_, 1, 0, fun _ => 0, fun _ => 0, rfl, rfl, by omega, by omega, Lib.hid (RowsO.nil _ _ _ _ _ _), Lib.hid (Below.refl _ _)⟩
  case round =>
    obtain ⟨V, z, r, G, C, rfl, rfl, hz, hr, HRO, HB⟩ := hrel
    by_cases hlt : r + 1 < N
    · obtain ⟨wo, rfl⟩ : ∃ wo : World, wo = wr := ⟨_, rfl⟩
      have hlt' : z < (N : Int) := by omega
      subst hz
      have r00 : (0 : Int) ≤ (r : Int) := by omega
      have wz : wrap64 ((r : Int) + 1 + 1) = (r : Int) + 1 + 1 := by simp only [wrap64]; omega
      obtain ⟨b, o, b1, o1, hao, hbl, hrow, hb1l, hcl⟩ := HSQ.out (r + 1) hlt
      have HROW := Lib.hid (And.intro hbl (And.intro hrow (And.intro hb1l hcl)))
      subst hao
      clear hbl hrow hb1l hcl
      go_wp2_with fail
      go_loopw [7, 8] (fun rv kv wr => ∃ (R : Value) (y : Int) (k : Nat), R = rv ∧ kv = .int .i64 y ∧ y = k ∧ k ≤ N ∧ Hid (wr.ownsRow wo.heap.size 3 1 R (cN col k) (cellsI (mnF col F r) (cN col k))) ∧ Hid (Below wo.heap.size wo wr)) (fun _ kv _ => N - (intOf kv).toNat)
      case atStart => exact ⟨_, 0, 0, rfl, rfl, by omega, by omega, Lib.hid (by rw [show cN col 0 = 0 from by unfold cN; rw [if_pos (by omega)]]; exact World.ownsRow_nil _ _ _ _), Lib.hid (Below.refl _ _)⟩
      case round =>
        obtain ⟨R, y, k, rfl, rfl, hy, hk, HO, HD⟩ := hrel
        obtain ⟨hbl, hrow, hb1l, hcl⟩ := HROW.out
        have HBW := Lib.hid (HB.out.trans (HD.out.mono HB.out.size))
        have g0 := (HBW.out.cell (p := ⟨b, o + (r + 1), none⟩) hbl).trans hrow
        by_cases hkt : k < N
        · have hkt' : y < (N : Int) := by omega
          subst hy
          have k00 : (0 : Int) ≤ (k : Int) := by omega
          have wy : wrap64 ((k : Int) + 1) = (k : Int) + 1 := by clear wz; simp only [wrap64]; omega
          have g1 := (HBW.out.cell (p := ⟨b1, o1 + k, none⟩) hb1l).trans (hcl k hkt)
          have hbz : b < _ := World.block_lt_of_cell? _ _ g0
          have hb1z : b1 < _ := World.block_lt_of_cell? _ _ g1
          clear hcl hrow
          by_cases hkc : k = col
          · have hne : ((k : Int) != (col : Int)) = false := by simp [hkc]
            have HO2 : Hid (_ = _) := Lib.hid (show cN col (k + 1) = cN col k by subst hkc; exact cN_at)
            clear hkc
            go_wp2_with fail
            go_roundw
            case rel => exact ⟨R, (k : Int) + 1, k + 1, rfl, by first | rfl | rw [wy], by clear wz wy; omega, by omega, by rw [HO2.out]; exact HO, HD⟩
            case measure => clear wz; first | (simp [intOf]; done) | (simp [intOf]; omega)
          · have hne : ((k : Int) != (col : Int)) = true := bne_iff_ne.2 (by omega)
            have hne2 : ¬ (k : Int) = (col : Int) := by omega
            have HC2 := Lib.hid (cN_next hkc)
            have HF2 := Lib.hid (mnF_cN (r := r) (F := F) hkc)
            have hcb : cN col k ≤ 5 := by unfold cN; split <;> omega
            obtain ⟨v, hv⟩ : ∃ v, F (r + 1) k = v := ⟨_, rfl⟩
            have HV := Lib.hid hv
            rw [hv] at g1
            obtain ⟨q, hq⟩ : ∃ q, cN col k = q := ⟨_, rfl⟩
            have HQ := Lib.hid hq
            rw [hq] at hcb
            have HOq : Hid (wr.ownsRow wo.heap.size 3 1 R q (cellsI (mnF col F r) q)) := Lib.hid (by rw [← hq]; exact HO.out)
            have hbd := HD.out
            have hsz := hbd.size
            clear hkc hv hq
            go_wp2_with (at_builtin; refine wpList_append_own _ rfl (.tmp 27) (.tmp 35) 24 rfl wo.heap.size 3 i0 _ 1 8 Try.underlying24 HI.out.1 HI.out.2.1 HI.out.2.2.1 HI.out.2.2.2 rfl (by decide) _ q (cellsI (mnF col F r) q) rfl (HOq.out.alloc _) ⟨wr.heap.size, 0, none⟩ 1 1 [.int .i64 v] rfl rfl ?c1 ?c2 ?c3 ?c4 ?c5 ?_)
            try (case c1 => exact fun j u hu => World.news_of_block (cs := #[.int .i64 v]) (heap_new wr _) j u hu)
            case c2 => first | (intro u hu; simp only [List.mem_cons, List.not_mem_nil, or_false] at hu; subst hu; rfl) | rfl
            case c3 => unfold maxLen; omega
            case c4 => omega
            try (case c5 => first | omega | (simp; done) | (simp; omega))
            intro v' w5 hown' hgrow _
            have hltk := HOq.out.lt
            have HO5 : Hid (w5.ownsRow wo.heap.size 3 1 v' (cN col (k + 1)) (cellsI (mnF col F r) (cN col (k + 1)))) := Lib.hid (by rw [HC2.out, HQ.out, cellsI_succ, show mnF col F r q = v from by rw [← HQ.out, HF2.out, HV.out]]; exact hown')
            have HD5 : Hid (Below wo.heap.size wo w5) := Lib.hid (Below.grown (hbd.alloc hsz _) hgrow (by first | omega | (simp; omega)) (fun p hp => (hltk p hp).1))
            clear hown' hgrow hltk HO HOq HD HBW hbd hsz g0 g1
            go_wp2_with fail
            go_roundw
            case rel => exact ⟨v', (k : Int) + 1, k + 1, rfl, by first | rfl | rw [wy], by clear wz wy; omega, by omega, HO5, HD5⟩
            case measure => clear wz; first | (simp [intOf]; done) | (simp [intOf]; omega)
        · obtain rfl : k = N := by omega
          subst hy
          have HO2 : Hid (wr.ownsRow wo.heap.size 3 1 R (k - 1) (cellsI (mnF col F r) (k - 1))) := Lib.hid (by rw [← cN_end HCL.out]; exact HO.out)
          obtain ⟨gR, cR, rfl, hgB, hgs, _, _⟩ := own_fm HO2.out (by omega)
          have HWR : Hid (Intw wr gR (k - 1) (mnF col F r)) := Lib.hid (Intw.of_own HO2.out fun p hp => cellsI_get _ hp)
          have HNE : Hid (V.ownBlock ≠ some gR) := Lib.hid (fun e => by have := (HRO.out.1.lt _ e).2; omega)
          have hwb := HB.out.size
          have hbr : Below wr.heap.size wr (wr.alloc (Obj.cells #[.slice (some ⟨gR, 0, none⟩) (k - 1) cR] 24)) := (Below.refl _ _).alloc (Nat.le_refl _) _
          have HROA := Lib.hid ((HRO.out.keep HD.out).keep hbr)
          have HWA := Lib.hid (HWR.out.keep hbr)
          have hbw := HBW.out
          have hwz := hbw.size
          clear HO HO2 HWR hbr hcl
          go_wp2_with (at_builtin; refine wpList_append_lies _ rfl (.tmp 37) (.tmp 39) 38 rfl w.heap.size 24 i1 _ 1 24 Try.underlying38 HS.out.1 HS.out.2.1 HS.out.2.2.1 HS.out.2.2.2 rfl (by decide) V r (rowsC G C (k - 1) r) rfl HROA.out.1 ⟨wr.heap.size, 0, none⟩ 1 1 [.slice (some ⟨gR, 0, none⟩) (k - 1) cR] rfl rfl ?d1 ?d2 (by omega) ?d3 ?d4 ?d5 _ rfl ?_)
          try (case d1 => exact fun j u hu => World.news_of_block (cs := #[.slice (some ⟨gR, 0, none⟩) (k - 1) cR]) (heap_new wr _) j u hu)
          try (case d2 => first | (intro u hu; simp only [List.mem_cons, List.not_mem_nil, or_false] at hu; subst hu; rfl) | rfl)
          case d3 => unfold maxLen; omega
          case d4 => omega
          try (case d5 => first | omega | (simp; done) | (simp; omega))
          intro g' cap' w5 hown' hgrow hor hlg
          have HRO5 := Lib.hid ((HROA.out.append (f := mnF col F r) HWA.out (show w.heap.size ≤ gR by omega) (by simp; omega) HNE.out hown' hgrow (hor.imp id (fun h => by first | exact Nat.le_of_eq h.symm | (simp; omega)))).congr (F' := mnF col F) (fun j _ p _ => by
            (try dsimp only)
            split
            · rename_i e; subst e; rfl
            · rfl))
          have HB5 : Hid (Below w.heap.size w w5) := Lib.hid (Below.grown (hbw.alloc hwz _) hgrow (by first | omega | (simp; omega)) (fun p hp => (HROA.out.1.lt p hp).1))
          clear hown' hgrow hor HROA HWA HNE HRO HD HBW hbw
          go_wp2_with fail
          go_roundw
          case rel => exact ⟨_, (r : Int) + 1 + 1, r + 1, _, _, rfl, by first | rfl | rw [wz], by clear wz; omega, by omega, HRO5, HB5⟩
          case measure => first | (simp [intOf]; done) | (simp [intOf]; omega)
    · obtain rfl : N = r + 1 := by omega
      have hzn : ¬ z < ((r + 1 : Nat) : Int) := by omega
      subst hz
      have hbl := HB.out
      have HRW : Hid (∃ ao' cap' A' c', V = .slice ao' r cap' ∧ Rowsw wr ao' r A' (fun _ => r) c' (mnF col F)) := Lib.hid (by
        cases r with
        | zero =>
          have hV : ∃ ao' cap', V = .slice ao' 0 cap' := by
            rcases HRO.out.1.2 with ⟨h, _⟩ | ⟨g, cap, cur, h, _⟩
            · exact ⟨_, _, h⟩
            · exact ⟨_, _, h⟩
          obtain ⟨ao', cap', hV⟩ := hV
          exact ⟨ao', cap', fun _ => none, fun _ => 0, hV, fun h => absurd h (by omega), fun i hi => absurd hi (by omega)⟩
        | succ r =>
          obtain ⟨gV, cV, rfl, _, _, _, _⟩ := own_fm HRO.out.1 (by omega)
          exact ⟨_, cV, _, _, rfl, HRO.out.rows (by omega)⟩)
      obtain ⟨ao', cap', A', c', rfl, hrw⟩ := HRW.out
      have HR2 := Lib.hid hrw
      clear HRW hrw HRO HB
      go_wp2_with fail
      refine bodyPost_ret (v := .slice ao' r cap') (by simp [results, Try.results73, go_sem]) rfl ⟨⟨ao', cap', A', c', rfl, HR2.out⟩, hbl⟩
end Go.Proofs.Ytdhlikedjephmaa
