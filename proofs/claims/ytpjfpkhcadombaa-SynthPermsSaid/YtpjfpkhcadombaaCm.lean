import Derived.Test.YtpjfpkhcadombaaIv
namespace Prm
def cmpE (n m : Nat) (f g : Nat → Int) : Int := if permB n f = true ∧ permB m g = true then (if n = m then 0 else 2) else 40
theorem cmpE_1 {n m : Nat} {f g : Nat → Int} (h : permB n f = false) : cmpE n m f g = 40 := by unfold cmpE; rw [if_neg (by rw [h]; simp)]
theorem cmpE_2 {n m : Nat} {f g : Nat → Int} (h : permB m g = false) : cmpE n m f g = 40 := by unfold cmpE; rw [if_neg (by rw [h]; simp)]
theorem cmpE_3 {n m : Nat} {f g : Nat → Int} (h1 : permB n f = true) (h2 : permB m g = true) (h : ¬ n = m) : cmpE n m f g = 2 := by unfold cmpE; rw [if_pos ⟨h1, h2⟩, if_neg h]
theorem cmpE_4 {n : Nat} {f g : Nat → Int} (h1 : permB n f = true) (h2 : permB n g = true) : cmpE n n f g = 0 := by unfold cmpE; rw [if_pos ⟨h1, h2⟩, if_pos rfl]
def cmpF (f g : Nat → Int) (k : Nat) : Int := f (g k).toNat
end Prm
namespace Go.Proofs.Ytpjfpkhcadombaa
open Go.RowKit Prm

set_option maxRecDepth 100000 in
set_option maxHeartbeats 4000000 in
theorem compose_any (n m cap dap : Nat) (ao bo : Option Addr) (f g : Nat → Int) (w : World) (hn : n ≤ 9223372036854775807) (hm : m ≤ 9223372036854775807) (hc : Ints w ao n f) (hd : Ints w bo m g) :
    Calls Try.prog 16 #[.slice ao n cap, .slice bo m dap] w fun e w' => IntsOr w.heap.size w' e n (cmpF f g) (cmpE n m f g) ∧ Below w.heap.size w w' := by
  have HC := Lib.hid hc
  have HD := Lib.hid hd
  clear hc hd
  cases hp : permB n f with
  | false =>
    have HE : Hid (cmpE n m f g = 40) := Lib.hid (cmpE_1 hp)
    have HP := Lib.hid hp
    clear hp
    go_enter Try.func16, Try.ntmps16
    go_wp2_with fail
    refine (validPerm_any n cap ao f _ hn HC.out).mono ?_
    rintro e w1 ⟨rfl, hb⟩
    rw [HP.out]
    have D1 := Lib.hid hb
    clear hb
    go_wp2_with fail
    go_returns
    exact ⟨.inr ⟨by rw [HE.out]; decide, by rw [HE.out] <;> rfl⟩, D1.out⟩
  | true =>
  cases hq : permB m g with
  | false =>
    have HE : Hid (cmpE n m f g = 40) := Lib.hid (cmpE_2 hq)
    have HP := Lib.hid hp
    have HQ := Lib.hid hq
    clear hp hq
    go_enter Try.func16, Try.ntmps16
    go_wp2_with fail
    refine (validPerm_any n cap ao f _ hn HC.out).mono ?_
    rintro e w1 ⟨rfl, hb⟩
    rw [HP.out]
    have HD1 := Lib.hid (HD.out.keep hb)
    have D1 := Lib.hid hb
    clear hb
    go_wp2_with fail
    refine (validPerm_any m dap bo g _ hm HD1.out).mono ?_
    rintro e w2 ⟨rfl, hb⟩
    rw [HQ.out]
    have D2 := Lib.hid (D1.out.trans (hb.mono D1.out.size))
    clear hb
    go_wp2_with fail
    go_returns
    exact ⟨.inr ⟨by rw [HE.out]; decide, by rw [HE.out] <;> rfl⟩, D2.out⟩
  | true =>
  have HP := Lib.hid hp
  have HQ := Lib.hid hq
  by_cases hnm : ¬ n = m
  · have HE : Hid (cmpE n m f g = 2) := Lib.hid (cmpE_3 hp hq hnm)
    have hb0 : ((n : Int) != (m : Int)) = true := bne_iff_ne.2 (by omega)
    have hb1 : ((n : Int) == (m : Int)) = false := beq_eq_false_iff_ne.2 (by omega)
    clear hp hq hnm
    go_enter Try.func16, Try.ntmps16
    go_wp2_with fail
    refine (validPerm_any n cap ao f _ hn HC.out).mono ?_
    rintro e w1 ⟨rfl, hb⟩
    rw [HP.out]
    have HD1 := Lib.hid (HD.out.keep hb)
    have D1 := Lib.hid hb
    clear hb
    go_wp2_with fail
    refine (validPerm_any m dap bo g _ hm HD1.out).mono ?_
    rintro e w2 ⟨rfl, hb⟩
    rw [HQ.out]
    have D2 := Lib.hid (D1.out.trans (hb.mono D1.out.size))
    clear hb
    go_wp2_with fail
    go_returns
    exact ⟨.inr ⟨by rw [HE.out]; decide, by rw [HE.out] <;> rfl⟩, D2.out⟩
  obtain rfl : n = m := Decidable.not_not.1 hnm
  have HE : Hid (cmpE n n f g = 0) := Lib.hid (cmpE_4 hp hq)
  obtain ⟨h1, h64, hrg⟩ := permB_yes hq
  have HRG := Lib.hid hrg
  obtain ⟨i0, hi, hz0, hz1, hz2⟩ := info_parts infoInt
  have HI := Lib.hid (And.intro hi (And.intro hz0 (And.intro hz1 hz2)))
  clear hi hz0 hz1 hz2 hp hq hnm hrg
  have h64' : (n : Int) ≤ 64 := by omega
  go_enter Try.func16, Try.ntmps16
  go_wp2_with fail
  refine (validPerm_any n cap ao f _ hn HC.out).mono ?_
  rintro e w1 ⟨rfl, hb⟩
  rw [HP.out]
  have HD1 := Lib.hid (HD.out.keep hb)
  have D1 := Lib.hid hb
  clear hb
  go_wp2_with fail
  refine (validPerm_any n dap bo g _ hm HD1.out).mono ?_
  rintro e w2 ⟨rfl, hb⟩
  rw [HQ.out]
  have D2 := Lib.hid (D1.out.trans (hb.mono D1.out.size))
  have hs2 : w.heap.size ≤ w2.heap.size := D2.out.size
  clear hb
  go_wp2_with (refine wpList_make_full _ rfl (.tmp 23) (.tmp 23) 22 rfl w2.heap.size 3 i0 _ 1 Try.underlying22 HI.out.1 HI.out.2.1 HI.out.2.2.1 .i64 .i64 _ _ n rfl rfl (by simp) (by simp) ?c1 ?c2 ?c3 ?_)
  case c1 => rw [HI.out.2.2.2]; omega
  case c2 => unfold maxLen; omega
  case c3 => exact Nat.le_refl _
  intro w3 hown hgrow
  have HW : Hid (Intw w3 w2.heap.size n (fun _ => 0)) := Lib.hid (Intw.of_own hown fun i hi => made_get n i hi)
  have hlt3 : w2.heap.size < w3.heap.size := (hown.lt _ rfl).2
  have D3 : Below w.heap.size w w3 := Below.grown D2.out hgrow hs2 (fun k hk => by cases hk)
  clear hown hgrow
  go_wp2_with fail
  go_loopw [7, 8, 27] (fun _ _ i wr => ∃ k : Nat, i = .int .i64 k ∧ k ≤ n ∧ Hid (Intw wr w2.heap.size n (fun i => if i < k then cmpF f g i else 0)) ∧ Below w.heap.size w wr ∧ w2.heap.size < wr.heap.size) (fun _ _ i _ => n - (intOf i).toNat)
  case atStart => exact ⟨0, rfl, Nat.zero_le _, Lib.hid (HW.out.congr fun i _ => (if_neg (by omega)).symm), D3, hlt3⟩
  case round =>
    obtain ⟨k, rfl, hk, HK, hbel, hsz⟩ := hrel
    by_cases hlt : k < n
    · have hlt' : (k : Int) < (n : Int) := by omega
      obtain ⟨b, o, rfl, hcell⟩ := (Ints.keep HC.out hbel) (by omega)
      obtain ⟨b', o', rfl, hcell'⟩ := (Ints.keep HD.out hbel) (by omega)
      have d0 := hcell' k hlt
      obtain ⟨hx0, hxn, _⟩ := HRG.out k hlt
      obtain ⟨y, hy⟩ : ∃ y : Nat, g k = y := ⟨(g k).toNat, by omega⟩
      rw [hy] at d0 hx0 hxn
      have hyn : y < n := by omega
      have c0 := hcell y hyn
      obtain ⟨z, hz⟩ : ∃ z, f y = z := ⟨_, rfl⟩
      rw [hz] at c0
      obtain ⟨e0, e1⟩ := HK.out k hlt
      simp only [Nat.lt_irrefl, if_false] at e0
      have HS : Hid (Intw (wr.setCell ⟨w2.heap.size, k, none⟩ (.int .i64 z)) w2.heap.size n (fun i => if i < k + 1 then cmpF f g i else 0)) := Lib.hid ((HK.out.store hlt z).congr fun i _ => by
        show (if i = k then z else if i < k then cmpF f g i else 0) = (if i < k + 1 then cmpF f g i else 0)
        by_cases e : i = k
        · subst e; rw [if_pos rfl, if_pos (by omega)]; unfold cmpF; rw [hy, ← hz, Int.toNat_natCast]
        · by_cases e2 : i < k
          · rw [if_neg e, if_pos e2, if_pos (by omega)]
          · rw [if_neg e, if_neg e2, if_neg (by omega)])
      clear hcell hcell' hy hx0 hz
      go_wp2_with fail
      go_roundw
      case rel => exact ⟨k + 1, by go_num, by omega, HS, by go_grown, by simpa using hsz⟩
      case measure => simp [intOf]; omega
    · obtain rfl : k = n := by omega
      go_wp2_with fail
      go_returns
      exact ⟨.inl ⟨HE.out, w2.heap.size, k, rfl, HK.out.congr fun i hi => if_pos hi, hs2, hsz⟩, hbel⟩

set_option maxRecDepth 100000 in
set_option maxHeartbeats 4000000 in
theorem rCompose_any (n m cap dap : Nat) (ao bo : Option Addr) (f g : Nat → Int) (w : World) (hn : n ≤ 9223372036854775807) (hm : m ≤ 9223372036854775807) (hc : Ints w ao n f) (hd : Ints w bo m g) :
    Calls Try.prog 17 #[.slice ao n cap, .slice bo m dap] w fun e w' => IntsOr w.heap.size w' e n (cmpF f g) (cmpE n m f g) ∧ Below w.heap.size w w' := by
  have HC := Lib.hid hc
  have HD := Lib.hid hd
  clear hc hd
  cases hp : permB n f with
  | false =>
    have HE : Hid (cmpE n m f g = 40) := Lib.hid (cmpE_1 hp)
    have HP := Lib.hid hp
    clear hp
    go_enter Try.func17, Try.ntmps17
    go_wp2_with fail
    refine (rValidPerm_any n cap ao f _ hn HC.out).mono ?_
    rintro e w1 ⟨rfl, hb⟩
    rw [HP.out]
    have D1 := Lib.hid hb
    clear hb
    go_wp2_with fail
    go_returns
    exact ⟨.inr ⟨by rw [HE.out]; decide, by rw [HE.out] <;> rfl⟩, D1.out⟩
  | true =>
  cases hq : permB m g with
  | false =>
    have HE : Hid (cmpE n m f g = 40) := Lib.hid (cmpE_2 hq)
    have HP := Lib.hid hp
    have HQ := Lib.hid hq
    clear hp hq
    go_enter Try.func17, Try.ntmps17
    go_wp2_with fail
    refine (rValidPerm_any n cap ao f _ hn HC.out).mono ?_
    rintro e w1 ⟨rfl, hb⟩
    rw [HP.out]
    have HD1 := Lib.hid (HD.out.keep hb)
    have D1 := Lib.hid hb
    clear hb
    go_wp2_with fail
    refine (rValidPerm_any m dap bo g _ hm HD1.out).mono ?_
    rintro e w2 ⟨rfl, hb⟩
    rw [HQ.out]
    have D2 := Lib.hid (D1.out.trans (hb.mono D1.out.size))
    clear hb
    go_wp2_with fail
    go_returns
    exact ⟨.inr ⟨by rw [HE.out]; decide, by rw [HE.out] <;> rfl⟩, D2.out⟩
  | true =>
  have HP := Lib.hid hp
  have HQ := Lib.hid hq
  by_cases hnm : ¬ n = m
  · have HE : Hid (cmpE n m f g = 2) := Lib.hid (cmpE_3 hp hq hnm)
    have hb0 : ((n : Int) != (m : Int)) = true := bne_iff_ne.2 (by omega)
    have hb1 : ((n : Int) == (m : Int)) = false := beq_eq_false_iff_ne.2 (by omega)
    clear hp hq hnm
    go_enter Try.func17, Try.ntmps17
    go_wp2_with fail
    refine (rValidPerm_any n cap ao f _ hn HC.out).mono ?_
    rintro e w1 ⟨rfl, hb⟩
    rw [HP.out]
    have HD1 := Lib.hid (HD.out.keep hb)
    have D1 := Lib.hid hb
    clear hb
    go_wp2_with fail
    refine (rValidPerm_any m dap bo g _ hm HD1.out).mono ?_
    rintro e w2 ⟨rfl, hb⟩
    rw [HQ.out]
    have D2 := Lib.hid (D1.out.trans (hb.mono D1.out.size))
    clear hb
    go_wp2_with fail
    go_returns
    exact ⟨.inr ⟨by rw [HE.out]; decide, by rw [HE.out] <;> rfl⟩, D2.out⟩
  obtain rfl : n = m := Decidable.not_not.1 hnm
  have HE : Hid (cmpE n n f g = 0) := Lib.hid (cmpE_4 hp hq)
  obtain ⟨h1, h64, hrg⟩ := permB_yes hq
  have HRG := Lib.hid hrg
  obtain ⟨i0, hi, hz0, hz1, hz2⟩ := info_parts infoInt
  have HI := Lib.hid (And.intro hi (And.intro hz0 (And.intro hz1 hz2)))
  clear hi hz0 hz1 hz2 hp hq hnm hrg
  have h64' : (n : Int) ≤ 64 := by omega
  go_enter Try.func17, Try.ntmps17
  go_wp2_with fail
  refine (rValidPerm_any n cap ao f _ hn HC.out).mono ?_
  rintro e w1 ⟨rfl, hb⟩
  rw [HP.out]
  have HD1 := Lib.hid (HD.out.keep hb)
  have D1 := Lib.hid hb
  clear hb
  go_wp2_with fail
  refine (rValidPerm_any n dap bo g _ hm HD1.out).mono ?_
  rintro e w2 ⟨rfl, hb⟩
  rw [HQ.out]
  have D2 : Below w.heap.size w w2 := D1.out.trans (hb.mono D1.out.size)
  clear hb
  go_wp2_with fail
  go_loopw [6, 7] (fun lv i wr => ∃ k : Nat, i = .int .i64 k ∧ k ≤ n ∧ Hid (wr.ownsRow w.heap.size 3 1 lv k (cellsI (cmpF f g) k)) ∧ Below w.heap.size w wr) (fun _ i _ => n - (intOf i).toNat)
  case atStart => exact ⟨0, rfl, Nat.zero_le _, Lib.hid (World.ownsRow_nil _ _ _ _), D2⟩
  case round =>
    obtain ⟨k, rfl, hk, HK, hbel⟩ := hrel
    have hsz := hbel.size
    by_cases hlt : k < n
    · have hlt' : (k : Int) < (n : Int) := by omega
      obtain ⟨b, o, rfl, hcell⟩ := (Ints.keep HC.out hbel) (by omega)
      obtain ⟨b', o', rfl, hcell'⟩ := (Ints.keep HD.out hbel) (by omega)
      have d0 := hcell' k hlt
      obtain ⟨hx0, hxn, _⟩ := HRG.out k hlt
      obtain ⟨y, hy⟩ : ∃ y : Nat, g k = y := ⟨(g k).toNat, by omega⟩
      rw [hy] at d0 hx0 hxn
      have hyn : y < n := by omega
      have c0 := hcell y hyn
      obtain ⟨z, hz⟩ : ∃ z, f y = z := ⟨_, rfl⟩
      rw [hz] at c0
      have HZ : Hid (cmpF f g k = z) := Lib.hid (by unfold cmpF; rw [hy, ← hz, Int.toNat_natCast])
      clear hcell hcell' hy hx0 hz
      go_wp2_with (at_builtin; refine wpList_append_own _ rfl (.tmp 27) (.tmp 35) 22 rfl w.heap.size 3 i0 _ 1 8 Try.underlying22 HI.out.1 HI.out.2.1 HI.out.2.2.1 HI.out.2.2.2 rfl (by decide) _ k (cellsI (cmpF f g) k) rfl (HK.out.alloc _) ⟨wr.heap.size, 0, none⟩ 1 1 [.int .i64 z] rfl rfl ?c1 ?c2 ?c3 ?c4 ?c5 ?_)
      case c1 => exact fun j u hu => World.news_of_block (cs := #[.int .i64 z]) (heap_new wr _) j u hu
      case c2 =>
        intro u hu
        simp only [List.mem_cons, List.not_mem_nil, or_false] at hu
        subst hu; rfl
      case c3 => unfold maxLen; omega
      case c4 => omega
      case c5 => simp; omega
      intro v' w3 hown' hgrow _
      rw [← HZ.out, ← cellsI_succ] at hown'
      have hltk := HK.out.lt
      have HB3 : Below w.heap.size w w3 := Below.grown (hbel.alloc hsz _) hgrow (by simp; omega) (fun k hk => (hltk k hk).1)
      have HO3 := Lib.hid hown'
      clear hown' hgrow hltk c0 d0
      go_wp2_with fail
      go_roundw
      case rel => exact ⟨k + 1, by go_num, by omega, HO3, HB3⟩
      case measure => simp [intOf]; omega
    · obtain rfl : k = n := by omega
      obtain ⟨g', cap', rfl, hgB, hgs, _, _⟩ := own_form HK.out h1
      go_wp2_with fail
      go_returns
      exact ⟨.inl ⟨HE.out, g', cap', rfl, Intw.of_own HK.out fun i hi => cellsI_get _ hi, hgB, hgs⟩, hbel⟩
end Go.Proofs.Ytpjfpkhcadombaa
