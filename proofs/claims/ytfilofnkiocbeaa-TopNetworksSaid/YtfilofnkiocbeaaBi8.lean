import Derived.Test.YtfilofnkiocbeaaBh8
import Derived.Laws.MakeOwn
namespace Go.Proofs.Ytfilofnkiocbeaa
open Go.RowKit Ben
/-- Where the light of each input comes out. -/
def ouF (s : Nat → Bool) (k : Nat) : Nat → Int := fun i => ((out s k 0 i : Nat) : Int)
set_option maxRecDepth 100000 in
set_option maxHeartbeats 8000000 in
theorem through_any (k cap : Nat) (ao : Option Addr) (s : Nat → Bool) (w : World) (hk : k ≤ 3) (hc : Bools w ao (cn k) s) :
    Calls Try.prog 53 #[.int .i64 (sz k : Nat), .slice ao (cn k) cap] w fun e w' => IntsRet w.heap.size w' e (sz k) (ouF s k) ∧ Below w.heap.size w w' := by
  obtain ⟨i0, hi, hz0, hz1, hz2⟩ := info_parts infoInt
  have HI := Lib.hid (And.intro hi (And.intro hz0 (And.intro hz1 hz2)))
  have hs16 := sz_le hk
  have hsp := sz_pos k
  have hc56 := cn_le hk
  have hcp := cn_pos k
  clear hi hz0 hz1 hz2
  go_enter Try.func53, Try.ntmps53
  go_wp2_with fail
  refine (numbered_any (cn k) cap ao s _ hcp (by omega) hc).mono ?_
  rintro e w1 ⟨⟨gu, cu, rfl, hU, hgB, hgs, hgc, hgm⟩, hb⟩
  have HU := Lib.hid hU
  have HB := Lib.hid hb
  clear hU hb hc
  have hgw : w.heap.size ≤ w1.heap.size := HB.out.size
  go_wp2_with (refine wpList_make_full _ rfl (.tmp 10) (.tmp 10) 28 rfl w1.heap.size 3 i0 _ 1 Try.underlying28 HI.out.1 HI.out.2.1 HI.out.2.2.1 .i64 .i64 _ _ (sz k) rfl rfl (by simp) (by simp) ?c1 ?c2 ?c3 ?_)
  case c1 => rw [HI.out.2.2.2]; omega
  case c2 => unfold maxLen; omega
  case c3 => exact Nat.le_refl _
  intro w2 hown hgrow
  have HW : Hid (Intw w2 w1.heap.size (sz k) (fun _ => 0)) := Lib.hid (Intw.of_own hown fun i hi => made_get (sz k) i hi)
  have hlt1 : w1.heap.size < w2.heap.size := (hown.lt _ rfl).2
  have DW : Below w1.heap.size w1 w2 := Below.grown (Below.refl _ _) hgrow (Nat.le_refl _) (fun k hk => by cases hk)
  have HB2 : Hid (Below w.heap.size w w2) := Lib.hid (HB.out.trans (DW.mono HB.out.size))
  have HU2 := Lib.hid (HU.out.keep DW)
  clear hown hgrow DW HB HU
  generalize w1.heap.size = g at *
  go_wp2_with fail
  go_loopw [14] (fun iv wr => ∃ (z : Int) (i : Nat), iv = .int .i64 z ∧ z = i ∧ i ≤ sz k ∧ Hid (Intw wr g (sz k) (fun j => if j < i then ouF s k j else 0)) ∧ Hid (Unw wr gu 0 (cn k) 0 s) ∧ Hid (Below w.heap.size w wr) ∧ g < wr.heap.size) (fun iv _ => sz k - (intOf iv).toNat)
  case atStart => exact ⟨0, 0, rfl, by omega, by omega, Lib.hid (HW.out.congr fun i _ => (if_neg (by omega)).symm), HU2, HB2, hlt1⟩
  case round =>
    obtain ⟨z, i, rfl, hz, hi, HW2, HU3, HB3, hsw⟩ := hrel
    by_cases hlt : i < sz k
    · have hlt' : z < ((sz k : Nat) : Int) := by omega
      subst hz
      have i00 : (0 : Int) ≤ (i : Int) := by omega
      have wz : wrap64 ((i : Int) + 1) = (i : Int) + 1 := by simp only [wrap64]; omega
      clear HW HU2 HB2 hlt1
      go_wp2_with fail
      refine (follow_any s k hk gu 0 cu 0 i _ hgc hgm (by omega) hlt HU3.out).mono ?_
      rintro e w3 ⟨⟨V, he, _⟩, hb3⟩
      obtain ⟨y, hy⟩ : ∃ y, out s k 0 i = y := ⟨_, rfl⟩
      rw [hy] at he
      subst he
      have HY : Hid (ouF s k i = (y : Int)) := Lib.hid (by unfold ouF; rw [hy])
      have HW3 := Lib.hid (HW2.out.keep hb3)
      have HU4 := HU3.out.keep hb3
      have HB4 := Lib.hid (HB3.out.trans (hb3.mono HB3.out.size))
      have hs3 : g < w3.heap.size := by have := hb3.size; omega
      have hgug : ¬ g = gu := by omega
      clear hy hb3 HW2 HU3 HB3 hsw
      obtain ⟨m0, m1⟩ := HW3.out i hlt
      have HW4 : Hid (Intw (w3.setCell ⟨g, i, none⟩ (.int .i64 (y : Int))) g (sz k) (fun j => if j < i + 1 then ouF s k j else 0)) := Lib.hid ((HW3.out.store hlt (y : Int)).congr fun j hj => by
        unfold updI
        by_cases e : j = i
        · rw [if_pos e, if_pos (by omega), e, HY.out]
        · rw [if_neg e]
          dsimp only
          by_cases h : j < i
          · rw [if_pos h, if_pos (by omega)]
          · rw [if_neg h, if_neg (by omega)])
      have HU5 : Hid (Unw (w3.setCell ⟨g, i, none⟩ (.int .i64 (y : Int))) gu 0 (cn k) 0 s) := Lib.hid (fun j hj => by
        obtain ⟨a1, a2⟩ := HU4 j hj
        exact ⟨by go_cell, by go_cell⟩)
      have HB5 : Hid (Below w.heap.size w (w3.setCell ⟨g, i, none⟩ (.int .i64 (y : Int)))) := Lib.hid (HB4.out.setCell (p := ⟨g, i, none⟩) (by simp only; omega) _)
      have hs5 : g < (w3.setCell ⟨g, i, none⟩ (.int .i64 (y : Int))).heap.size := World.block_lt_of_cell? _ _ (HW4.out i hlt).1
      clear HW3 HU4 HB4 hs3
      go_wp2_with fail
      go_roundw
      case rel => exact ⟨(i : Int) + 1, i + 1, by first | rfl | rw [wz], by clear wz; omega, by clear wz; omega, HW4, HU5, HB5, hs5⟩
      case measure => clear wz; first | (simp [intOf]; done) | (simp [intOf]; omega)
    · obtain hik : i = sz k := by omega
      have hzn : ¬ z < ((sz k : Nat) : Int) := by omega
      subst hz
      have HWT : Hid (Intw wr g (sz k) (ouF s k)) := Lib.hid (HW2.out.congr fun j hj => if_pos (by omega))
      have hbl := HB3.out
      have HG := Lib.hid (And.intro hgw hsw)
      clear hik HW HU2 HB2 HW2 hgw hsw
      go_wp2_with fail
      go_returns
      exact ⟨⟨g, sz k, rfl, HWT.out, HG.out.1, HG.out.2, Nat.le_refl _, by omega⟩, hbl⟩
set_option maxRecDepth 100000 in
theorem pThrough_no (n : Int) (m cap : Nat) (ao : Option Addr) (w : World) (hm : m ≤ 9223372036854775807) (he : ckE n m ≠ 0) :
    Calls Try.prog 22 #[.int .i64 n, .slice ao m cap] w fun e w' => e = .returned (.tuple #[.slice none 0 0, .int .i64 (ckE n m)]) ∧ w = w' := by
  have h1 : (ckE n m != 0) = true := bne_iff_ne.2 he
  clear he
  go_enter Try.func22, Try.ntmps22
  go_wp2_with fail
  refine (checkB_any n ao m cap _ hm).mono ?_
  rintro e w' ⟨rfl, rfl⟩
  go_wp2_with fail
  go_ret2
  exact ⟨rfl, rfl⟩
set_option maxRecDepth 100000 in
theorem rThrough_no (n : Int) (m cap : Nat) (ao : Option Addr) (w : World) (hm : m ≤ 9223372036854775807) (he : ckE n m ≠ 0) :
    Calls Try.prog 23 #[.int .i64 n, .slice ao m cap] w fun e w' => e = .returned (.tuple #[.slice none 0 0, .int .i64 (ckE n m)]) ∧ w = w' := by
  have h1 : (ckE n m != 0) = true := bne_iff_ne.2 he
  clear he
  go_enter Try.func23, Try.ntmps23
  go_wp2_with fail
  refine (asked_any n ao m cap _ hm).mono ?_
  rintro e w' ⟨rfl, rfl⟩
  go_wp2_with fail
  go_ret2
  exact ⟨rfl, rfl⟩
/-- What comes back of Through where all is well. -/
def ThrR (B : Nat) (w : World) (e : Ending) (k : Nat) (s : Nat → Bool) : Prop := ∃ g cap, e = .returned (.tuple #[.slice (some ⟨g, 0, none⟩) (sz k) cap, .int .i64 0]) ∧ Intw w g (sz k) (ouF s k) ∧ B ≤ g ∧ g < w.heap.size
theorem ckE_sz {k : Nat} (hk : k ≤ 3) : ckE (sz k : Nat) (cn k) = 0 := by
  have h : k = 0 ∨ k = 1 ∨ k = 2 ∨ k = 3 := by omega
  rcases h with rfl | rfl | rfl | rfl <;> decide
set_option maxRecDepth 100000 in
set_option maxHeartbeats 2000000 in
theorem pThrough_ok (k cap : Nat) (ao : Option Addr) (s : Nat → Bool) (w : World) (hk : k ≤ 3) (hc : Bools w ao (cn k) s) :
    Calls Try.prog 22 #[.int .i64 (sz k : Nat), .slice ao (cn k) cap] w fun e w' => ThrR w.heap.size w' e k s ∧ Below w.heap.size w w' := by
  have hc56 := cn_le hk
  have HE := Lib.hid (ckE_sz hk)
  go_enter Try.func22, Try.ntmps22
  go_wp2_with fail
  refine (checkB_any _ ao (cn k) cap _ (by omega)).mono ?_
  rw [HE.out]
  rintro e w' ⟨rfl, rfl⟩
  go_wp2_with fail
  refine (through_any k cap ao s _ hk hc).mono ?_
  rintro e w' ⟨⟨g, c', rfl, hW, hB, hs, h1, h2⟩, hb⟩
  have H := Lib.hid (And.intro hW (And.intro hB hs))
  clear hW hB hs hc
  go_wp2_with fail
  go_ret2
  exact ⟨⟨g, c', rfl, H.out.1, H.out.2.1, H.out.2.2⟩, hb⟩
set_option maxRecDepth 100000 in
set_option maxHeartbeats 8000000 in
theorem rThrough_ok (k cap : Nat) (ao : Option Addr) (s : Nat → Bool) (w : World) (hk : k ≤ 3) (hc : Bools w ao (cn k) s) :
    Calls Try.prog 23 #[.int .i64 (sz k : Nat), .slice ao (cn k) cap] w fun e w' => ThrR w.heap.size w' e k s ∧ Below w.heap.size w w' := by
  obtain ⟨i0, hi0, hz0, hz1, hz2⟩ := info_parts infoInt
  have HI := Lib.hid (And.intro hi0 (And.intro hz0 (And.intro hz1 hz2)))
  clear hi0 hz0 hz1 hz2
  have hs16 := sz_le hk
  have hsp := sz_pos k
  have hc56 := cn_le hk
  have hcp := cn_pos k
  obtain ⟨b0, o0, rfl, hcell⟩ := hc (by omega)
  have hbw := World.block_lt_of_cell? _ _ (hcell 0 (by omega))
  have HC := Lib.hid hcell
  have HE := Lib.hid (ckE_sz hk)
  clear hc hcell
  go_enter Try.func23, Try.ntmps23
  go_wp2_with fail
  refine (asked_any _ (some ⟨b0, o0, none⟩) (cn k) cap _ (by omega)).mono ?_
  rw [HE.out]
  rintro e w' ⟨rfl, rfl⟩
  go_wp2_with fail
  go_loopw [7, 8] (fun V iv wr => ∃ (z : Int) (i : Nat), iv = .int .i64 z ∧ z = i ∧ i ≤ sz k ∧ Hid (wr.ownsRow w.heap.size 3 1 V i (cellsI (ouF s k) i)) ∧ Hid (Below w.heap.size w wr)) (fun _ iv _ => sz k - (intOf iv).toNat)
  case atStart => exact ⟨0, 0, rfl, by omega, by omega, Lib.hid (World.ownsRow_nil _ _ _ _), Lib.hid (Below.refl _ _)⟩
  case round =>
    obtain ⟨z, i, rfl, hz, hi, HO, HB⟩ := hrel
    by_cases hlt : i < sz k
    · have hlt' : z < ((sz k : Nat) : Int) := by omega
      subst hz
      have i00 : (0 : Int) ≤ (i : Int) := by omega
      have wz : wrap64 ((i : Int) + 1) = (i : Int) + 1 := by simp only [wrap64]; omega
      have hbs := HB.out.size
      go_wp2_with fail
      refine (rOut_any s wr.heap.size (cn k) cap b0 o0 (by omega) (by omega) k hk 0 i 0 0 (.slice none 0 0) [] _ rfl (Nat.le_refl _) (fun q hq => (HB.out.cell (p := ⟨b0, o0 + q, none⟩) hbw).trans (HC.out q hq)) (by omega) hlt (by unfold dp; omega) (World.ownsRow_nil _ _ _ _)).mono ?_
      rintro e w3 ⟨⟨V3, he, hV3⟩, hb3⟩
      obtain ⟨y, hy⟩ : ∃ y, out s k 0 i = y := ⟨_, rfl⟩
      rw [hy] at he
      subst he
      have HY : Hid (ouF s k i = (y : Int)) := Lib.hid (by unfold ouF; rw [hy])
      have HO3 := Lib.hid (own_below' HO.out hb3)
      have HB3 := Lib.hid (HB.out.trans (hb3.mono HB.out.size))
      have hbl := HB3.out
      have hblz := hbl.size
      have hltk := HO3.out.lt
      have HLT := Lib.hid hltk
      clear hy hb3 hV3 HO HB hltk hbs
      go_wp2_with (at_builtin; refine wpList_append_own _ rfl (.tmp 29) (.tmp 31) 28 rfl w.heap.size 3 i0 _ 1 8 Try.underlying28 HI.out.1 HI.out.2.1 HI.out.2.2.1 HI.out.2.2.2 rfl (by decide) _ i (cellsI (ouF s k) i) rfl (HO3.out.alloc _) ⟨w3.heap.size, 0, none⟩ 1 1 [.int .i64 (y : Int)] rfl rfl ?c1 ?c2 ?c3 ?c4 ?c5 ?_)
      try (case c1 => exact fun j u hu => World.news_of_block (cs := #[.int .i64 (y : Int)]) (heap_new w3 _) j u hu)
      case c2 => first | (intro u hu; simp only [List.mem_cons, List.not_mem_nil, or_false] at hu; subst hu; rfl) | rfl
      case c3 => unfold maxLen; omega
      case c4 => omega
      try (case c5 => first | omega | (simp; done) | (simp; omega))
      intro v' w5 hown' hgrow _
      have HO5 : Hid (w5.ownsRow w.heap.size 3 1 v' (i + 1) (cellsI (ouF s k) (i + 1))) := Lib.hid (by rw [cellsI_succ, HY.out]; exact hown')
      have HB5 : Hid (Below w.heap.size w w5) := Lib.hid (Below.grown (hbl.alloc hblz _) hgrow (by first | omega | (simp; omega)) (fun p hp => (HLT.out p hp).1))
      clear hown' hgrow HLT HO3 hbl hblz HB3
      go_wp2_with fail
      go_roundw
      case rel => exact ⟨(i : Int) + 1, i + 1, by first | rfl | rw [wz], by clear wz; omega, by clear wz; omega, HO5, HB5⟩
      case measure => clear wz; first | (simp [intOf]; done) | (simp [intOf]; omega)
    · obtain hik : i = sz k := by omega
      have hzn : ¬ z < ((sz k : Nat) : Int) := by omega
      subst hz
      subst hik
      obtain ⟨g, cap', rfl, hgB, hgs, hgc, hgm⟩ := own_fm HO.out (by omega)
      have HW : Hid (Intw wr g (sz k) (ouF s k)) := Lib.hid (Intw.of_own HO.out fun i hi => cellsI_get _ hi)
      have HG := Lib.hid (And.intro hgB hgs)
      have hbl := HB.out
      clear HO hgB hgs hgc hgm
      go_wp2_with fail
      refine bodyPost_ret (v := .tuple #[.slice (some ⟨g, 0, none⟩) (sz k) cap', .int .i64 0]) (by simp [results, Try.results23, go_sem]) rfl ⟨⟨g, cap', rfl, HW.out, HG.out.1, HG.out.2⟩, hbl⟩
end Go.Proofs.Ytfilofnkiocbeaa
