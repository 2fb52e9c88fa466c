import Derived.Test.YtdhlikedjephmaaTw6
import Derived.Test.YtdhlikedjephmaaHw
import Derived.Deep.DeepCutAuto
import Derived.Deep.RegionHeld2
namespace Go.Proofs.Ytdhlikedjephmaa
open Go.RowKit Heat
set_option maxRecDepth 100000 in
set_option maxHeartbeats 16000000 in
theorem HeatRows_any (N cap : Nat) (ao : Option Addr) (A : Nat → Option Addr) (l c : Nat → Nat) (F : Nat → Nat → Int) (a b : Int) (w : World) (hN : N ≤ 9223372036854775807) (hR : Rowsw w ao N A l c F) (ha : 0 ≤ a ∧ a ≤ 255) (hb : 0 ≤ b ∧ b ≤ 255) :
    Calls Try.prog 10 #[.agg #[.slice ao N cap], .agg #[.int .u8 a, .int .u8 b]] w fun e w' => e = .returned (.bool true) ∧ Below w.heap.size w w' := by
  have c0 : ((w.alloc (Obj.cells #[.slice ao N cap] 40)).alloc (Obj.cells #[.int .u8 a, .int .u8 b] 60)).cell? ⟨w.heap.size, 0, none⟩ = some (.slice ao N cap) := by go_cell
  have c1 : ((w.alloc (Obj.cells #[.slice ao N cap] 40)).alloc (Obj.cells #[.int .u8 a, .int .u8 b] 60)).cell? ⟨w.heap.size + 1, 0, none⟩ = some (.int .u8 a) := by go_cell
  have c2 : ((w.alloc (Obj.cells #[.slice ao N cap] 40)).alloc (Obj.cells #[.int .u8 a, .int .u8 b] 60)).cell? ⟨w.heap.size + 1, 1, none⟩ = some (.int .u8 b) := by go_cell
  have hb0 : Below w.heap.size w ((w.alloc (Obj.cells #[.slice ao N cap] 40)).alloc (Obj.cells #[.int .u8 a, .int .u8 b] 60)) := by go_grown
  have hsz : w.heap.size + 1 < ((w.alloc (Obj.cells #[.slice ao N cap] 40)).alloc (Obj.cells #[.int .u8 a, .int .u8 b] 60)).heap.size := by simp
  have HR := Lib.hid (hR.keep hb0)
  obtain ⟨ha0, ha1⟩ := ha
  obtain ⟨hb00, hb01⟩ := hb
  clear hR
  go_enter Try.func10, Try.ntmps10
  go_upto_region 1 with fail
  generalize ((w.alloc (Obj.cells #[.slice ao N cap] 40)).alloc (Obj.cells #[.int .u8 a, .int .u8 b] 60)) = W at *
  have HB0 := Lib.hid hb0
  have HK : Hid (∀ w', Below W.heap.size W w' → w'.cell? ⟨w.heap.size, 0, none⟩ = some (.slice ao N cap) ∧ w'.cell? ⟨w.heap.size + 1, 0, none⟩ = some (.int .u8 a) ∧ w'.cell? ⟨w.heap.size + 1, 1, none⟩ = some (.int .u8 b) ∧ w.heap.size + 1 < w'.heap.size) := Lib.hid (fun w' hb => ⟨(hb.cell (p := ⟨w.heap.size, 0, none⟩) (by simp only; omega)).trans c0, (hb.cell (p := ⟨w.heap.size + 1, 0, none⟩) hsz).trans c1, (hb.cell (p := ⟨w.heap.size + 1, 1, none⟩) hsz).trans c2, by have := hb.size; omega⟩)
  clear c1 c2 hb0 hsz
  go_wp2_with fail
  refine (wide_any N cap ao A l c F _ hN HR.out).mono ?_
  obtain ⟨t, ht⟩ : ∃ t, wideG N l = t := ⟨_, rfl⟩
  rw [ht]
  clear ht
  rintro e w1 ⟨rfl, hb⟩
  have HB1 := Lib.hid hb
  clear hb c0
  cases t with
  | true =>
    have hbl := HB0.out.trans (HB1.out.mono HB0.out.size)
    go_wp2_with fail
    refine (sane_any _).mono ?_
    rintro e wz ⟨rfl, hb⟩
    have DZ := hbl.trans (hb.mono hbl.size)
    clear hb hbl
    go_wp2_with fail
    go_returns
    exact ⟨rfl, DZ⟩
  | false =>
  obtain ⟨c0, c1, c2, hs1⟩ := HK.out _ HB1.out
  clear c1 c2
  go_wp2_with fail
  refine (rhValid_any N cap ao A l c F _ hN (HR.out.keep HB1.out)).mono ?_
  obtain ⟨t, ht⟩ : ∃ t, okG N l F = t := ⟨_, rfl⟩
  have HT := Lib.hid ht
  rw [ht]
  clear ht
  rintro e w2 ⟨rfl, hb⟩
  have HB2 := Lib.hid (HB1.out.trans (hb.mono HB1.out.size))
  clear hb c0 hs1 HB1
  cases t with
  | false =>
    have hbl := HB0.out.trans (HB2.out.mono HB0.out.size)
    go_wp2_with fail
    refine (sane_any _).mono ?_
    rintro e wz ⟨rfl, hb⟩
    have DZ := hbl.trans (hb.mono hbl.size)
    clear hb hbl
    go_wp2_with fail
    go_returns
    exact ⟨rfl, DZ⟩
  | true =>
  obtain ⟨⟨hN1, hN5⟩, hrows⟩ := okG_iff.1 HT.out
  have HRW := Lib.hid hrows
  have HSQ := Lib.hid ((HR.out.keep HB2.out).sq (fun i hi => (hrows i hi).1) (by omega))
  clear hrows
  obtain ⟨i, hi⟩ : ∃ i : Nat, a % (N : Int) = i := ⟨(a % (N : Int)).toNat, by have := Int.emod_nonneg a (show (N : Int) ≠ 0 by omega); omega⟩
  obtain ⟨k, hk⟩ : ∃ k : Nat, b % (N : Int) = k := ⟨(b % (N : Int)).toNat, by have := Int.emod_nonneg b (show (N : Int) ≠ 0 by omega); omega⟩
  have hiN : i < N := by have := Int.emod_lt_of_pos a (show 0 < (N : Int) by omega); omega
  have hkN : k < N := by have := Int.emod_lt_of_pos b (show 0 < (N : Int) by omega); omega
  have n0 : 0 < (N : Int) := by omega
  have n1 : ((N : Int) == 0) = false := beq_eq_false_iff_ne.2 (by omega)
  obtain ⟨c0, c1, c2, hs2⟩ := HK.out _ HB2.out
  go_wp2_with fail
  go_upto_region 4 with fail
  go_region
  go_upto_if 40 with fail
  simp only [hi, hk]
  by_cases hik : i = k
  · subst hik
    have hbl := HB0.out.trans (HB2.out.mono HB0.out.size)
    go_wp2_with fail
    refine (sane_any _).mono ?_
    rintro e wz ⟨rfl, hb⟩
    have DZ := hbl.trans ((Below.refl w2.heap.size w2).drew.mono hbl.size) |>.trans (hb.mono hbl.size)
    clear hb hbl
    go_wp2_with fail
    go_returns
    exact ⟨rfl, DZ⟩
  have hne : ((i : Int) == (k : Int)) = false := beq_eq_false_iff_ne.2 (by omega)
  clear c0 c1 c2 n1 ha0 ha1 hb00 hb01
  obtain ⟨i0, hi0, hz0, hz1, hz2⟩ := info_parts infoInt
  have HI := Lib.hid (And.intro hi0 (And.intro hz0 (And.intro hz1 hz2)))
  obtain ⟨i1, hi1, hy0, hy1, hy2⟩ := info_parts infoSl
  have HJ := Lib.hid (And.intro hi1 (And.intro hy0 (And.intro hy1 hy2)))
  clear hi0 hz0 hz1 hz2 hi1 hy0 hy1 hy2 hi hk
  have HB3 : Hid (Below W.heap.size W w2.drew) := Lib.hid HB2.out.drew
  have HS3 : Hid (∀ j, j < N → ∃ b o b1 o1, ao = some ⟨b, o, none⟩ ∧ b < w2.drew.heap.size ∧ w2.drew.cell? ⟨b, o + j, none⟩ = some (.slice (some ⟨b1, o1, none⟩) N (c j)) ∧ b1 < w2.drew.heap.size ∧ ∀ q, q < N → w2.drew.cell? ⟨b1, o1 + q, none⟩ = some (.int .i64 (F j q))) := Lib.hid HSQ.out
  have HR3 : Hid (Rowsw w2.drew ao N A l c F) := Lib.hid ((HR.out.keep HB2.out).keep (Below.refl _ _).drew)
  clear HSQ HB2 hs2
  generalize w2.drew = w3 at *
  obtain ⟨b0, o0, _, _, hao, hb0l, _⟩ := HS3.out 0 (by omega)
  subst hao
  have hcell3 := (HK.out _ HB3.out).1
  have HK3 : Hid (w3.cell? ⟨w.heap.size, 0, none⟩ = some (.slice (some ⟨b0, o0, none⟩) N cap)) := Lib.hid hcell3
  have hw3 : w.heap.size < w3.heap.size := World.block_lt_of_cell? _ _ hcell3
  clear hcell3
  go_upto_region 8 with fail
  have HTW : Hid (Two ((w3.alloc (Obj.cells #[.slice none 0 0] 40)).alloc (Obj.cells #[.slice none 0 0] 40)) (w3.heap.size + 2) w3.heap.size (w3.heap.size + 1) 0 0 N (.slice none 0 0) (.slice none 0 0) (fun _ => 0) (fun _ => 0) (fun _ => 0) (fun _ => 0) F) := Lib.hid ⟨⟨⟨by go_cell, by go_cell⟩, RowsO.nil _ _ _ _ _ _⟩, ⟨⟨by go_cell, by go_cell⟩, RowsO.nil _ _ _ _ _ _⟩, by rintro x (h | ⟨j, hj, _⟩) <;> first | (simp [Value.ownBlock] at h; done) | omega, by omega, by omega, by omega, by simp, fun _ _ h => absurd h (by omega), fun _ _ h => absurd h (by omega)⟩
  have hb4 : Below w3.heap.size w3 ((w3.alloc (Obj.cells #[.slice none 0 0] 40)).alloc (Obj.cells #[.slice none 0 0] 40)) := by go_grown
  have HB4 := Lib.hid hb4
  have hs4 : w3.heap.size + 2 ≤ (((w3.alloc (Obj.cells #[.slice none 0 0] 40)).alloc (Obj.cells #[.slice none 0 0] 40))).heap.size := by simp
  clear hb4
  generalize ((w3.alloc (Obj.cells #[.slice none 0 0] 40)).alloc (Obj.cells #[.slice none 0 0] 40)) = w4 at *
  generalize hT1 : w3.heap.size = T1 at *
  have HT1 := Lib.hid hT1
  clear hT1
  go_wp2_with fail
  go_loopw [10] (fun iv wr => ∃ (z : Int) (r : Nat) (V1 V2 : Value) (G1 C1 G2 C2 : Nat → Nat), iv = .int .i64 z ∧ z = r ∧ r ≤ N ∧ Hid (Two wr (T1 + 2) T1 (T1 + 1) r r N V1 V2 G1 C1 G2 C2 F) ∧ Hid (Below T1 w3 wr) ∧ T1 + 2 ≤ wr.heap.size) (fun iv _ => N - (intOf iv).toNat)
  case atStart => exact ⟨0, 0, _, _, _, _, _, _, rfl, by omega, by omega, HTW, HB4, hs4⟩
  case round =>
    obtain ⟨z, r, V1, V2, G1, C1, G2, C2, rfl, hz, hr, HTW1, HB, hTB⟩ := hrel
    clear HTW HB4 hs4
    by_cases hlt : r < N
    · have hlt' : z < (N : Int) := by omega
      subst hz
      have r00 : (0 : Int) ≤ (r : Int) := by omega
      have r05 : (r : Int) ≤ 5 := by omega
      obtain ⟨b0', o0', b1, o1, hao, hbl0, hrow, hbl1, hcl⟩ := HS3.out r hlt
      obtain ⟨rfl, rfl⟩ : b0 = b0' ∧ o0 = o0' := ⟨congrArg Addr.block (Option.some.inj hao), congrArg Addr.off (Option.some.inj hao)⟩
      have HS : Hid (∀ w', Below T1 w3 w' → w'.cell? ⟨w.heap.size, 0, none⟩ = some (.slice (some ⟨b0, o0, none⟩) N cap) ∧ w'.cell? ⟨b0, o0 + r, none⟩ = some (.slice (some ⟨b1, o1, none⟩) N (c r))) := Lib.hid (fun w' hb => ⟨(hb.cell (p := ⟨w.heap.size, 0, none⟩) (by have := HT1.out; simp only; omega)).trans HK3.out, (hb.cell (p := ⟨b0, o0 + r, none⟩) (by have := HT1.out; simp only; omega)).trans hrow⟩)
      have HCL : Hid (∀ w', Below T1 w3 w' → ∀ j, j < N → w'.cell? ⟨b1, o1 + j, none⟩ = some (.int .i64 (F r j))) := Lib.hid (fun w' hb j hj => (hb.cell (p := ⟨b1, o1 + j, none⟩) (by have := HT1.out; simp only; omega)).trans (hcl j hj))
      clear hao hbl0 hrow hbl1 hcl
      go_upto_region 11 with fail
      go_cut [] (fun wx => ∃ V1' G1' C1', Hid (Two wx (T1 + 2) T1 (T1 + 1) (r + 1) r N V1' V2 G1' C1' G2 C2 F) ∧ Hid (Below T1 w3 wx))
      case first =>
        have HTc : Hid (∀ w', Below wr.heap.size wr w' → w'.cell? ⟨T1, 0, none⟩ = some V1 ∧ True) := Lib.hid (fun w' hb => ⟨(HTW1.out.keep hb).1.1.1, trivial⟩)
        have D0 : Below wr.heap.size wr wr.drew := (Below.refl _ _).drew
        have E0 : Below T1 w3 wr.drew := HB.out.drew
        refine wp_region_held_drew (S := fun w' => w'.cell? ⟨w.heap.size, 0, none⟩ = some (.slice (some ⟨b0, o0, none⟩) N cap) ∧ w'.cell? ⟨b0, o0 + r, none⟩ = some (.slice (some ⟨b1, o1, none⟩) N (c r))) (by kernel_rfl) (HS.out _ E0) (fun hHeld => ?_)
        refine wpAnyH_take (i := 0) (oi := _) (v := ?_) rfl (by kernel_rfl) (by kernel_rfl) (by kernel_rfl) (fun _ _ _ h => h) (Or.inl ⟨by rfl, ?_⟩) (by assumption) ?_
        rotate_left
        · intro w hSw; obtain ⟨_, _⟩ := hSw; go_simp; (try with_reducible rfl)
        try change wpAnyH _ _ _ _ _ _ _ (Act.put _ (some 47) _) _
        try simp only [act_all]
        refine wpAnyH_take (i := 3) (oi := _) (v := ?_) rfl (by kernel_rfl) (by kernel_rfl) (by kernel_rfl) (fun _ _ _ h => h) (Or.inl ⟨by rfl, ?_⟩) (by assumption) ?_
        rotate_left
        · intro w hSw; obtain ⟨_, _⟩ := hSw; go_simp; (try with_reducible rfl)
        try change wpAnyH _ _ _ _ _ _ _ (Act.put _ (some 50) _) _
        try simp only [act_all]
        refine wpAnyH_take (i := 4) (oi := _) (v := ?_) rfl (by kernel_rfl) (by kernel_rfl) (by kernel_rfl) (fun _ _ _ h => h) (Or.inl ⟨by rfl, ?_⟩) (by assumption) ?_
        rotate_left
        · intro w hSw; obtain ⟨_, _⟩ := hSw; go_simp; (try with_reducible rfl)
        try change wpAnyH _ _ _ _ _ _ _ (Act.put _ (some 51) _) _
        try simp only [act_all]
        refine wpAnyH_take (i := 5) (oi := _) (v := ?_) rfl (by kernel_rfl) (by kernel_rfl) (by kernel_rfl) (fun _ _ _ h => h) (Or.inl ⟨by rfl, ?_⟩) (by assumption) ?_
        rotate_left
        · intro w hSw; obtain ⟨_, _⟩ := hSw; go_simp; (try with_reducible rfl)
        try change wpAnyH _ _ _ _ _ _ _ (Act.put _ (some 52) _) _
        try simp only [act_all]
        refine wpAnyH_take (i := 6) (oi := _) (v := ?_) rfl (by kernel_rfl) (by kernel_rfl) (by kernel_rfl) (fun _ _ _ h => h) (Or.inl ⟨by rfl, ?_⟩) (by assumption) ?_
        rotate_left
        · intro w hSw; obtain ⟨_, _⟩ := hSw; go_simp; (try with_reducible rfl)
        try change wpAnyH _ _ _ _ _ _ _ (Act.put _ (some 53) _) _
        try simp only [act_all]
        refine wpAnyH_take (i := 7) (oi := _) (v := ?_) rfl (by kernel_rfl) (by kernel_rfl) (by kernel_rfl) (fun _ _ _ h => h) (Or.inl ⟨by rfl, ?_⟩) (by assumption) ?_
        rotate_left
        · intro w hSw; obtain ⟨_, _⟩ := hSw; go_simp; (try with_reducible rfl)
        try change wpAnyH _ _ _ _ _ _ _ (Act.put _ (some 54) _) _
        try simp only [act_all]
        refine wpAnyH_ready (rs := [1, 2]) (by kernel_rfl) (by simp) ?_
        refine AllReadyH.cons (o := _) rfl (fun K hK => ?_) ?_
        · have v0 := (HTc.out wr (Below.refl _ _)).1
          have z0 : T1 < wr.heap.size := by omega
          go_simp
          refine hK.out _ _ (HS.out _ E0) (fun hHeld => ?_)
          clear hK K
          try simp only [act_all]
          clear v0 z0
          refine wpAnyH_ready (rs := [2]) (by kernel_rfl) (by simp) ?_
          refine AllReadyH.cons (o := _) rfl (fun K hK => ?_) AllReadyH.nil
          go_simp
          have D1 : Below wr.heap.size wr (wr.drew.alloc (Obj.cells #[] 3)) := bal D0 _
          have E1 : Below T1 w3 (wr.drew.alloc (Obj.cells #[] 3)) := E0.alloc (by have := D0.size; omega) _
          refine hK.out _ _ (HS.out _ E1) (fun hHeld => ?_)
          clear hK K
          try simp only [act_all]
          refine wpAnyH_ready (rs := [8]) (by kernel_rfl) (by simp) ?_
          refine AllReadyH.cons (o := _) rfl (fun K hK => ?_) AllReadyH.nil
          refine step_append_lies _ (by rfl) _ _ 24 (by rfl) wr.drew.heap.size 3 i0 _ 1 8 Try.underlying24 HI.out.1 HI.out.2.1 HI.out.2.2.1 HI.out.2.2.2 (by rfl) (by decide) (.slice (some ⟨wr.drew.heap.size, 0, none⟩) 0 0) 0 [] (by rfl) (World.ownsRow_made wr.drew #[] 0 (Nat.le_refl _) (by unfold maxLen; omega) rfl) ⟨b1, o1, none⟩ N (c r) (cellsI (F r) N) (by rfl) (by rw [cellsI_len]; omega) (fun j u hu => ?_) (cellsI_one _ _) (by omega) (by unfold maxLen; omega) (by omega) (by first | omega | (simp; done) | (simp; omega)) _ rfl ?_
          · have hj : j < N := by have := (List.getElem?_eq_some_iff.1 hu).1; rwa [cellsI_len] at this
            rw [cellsI_get (F r) hj] at hu
            rw [Addr.add_lit, ← hu]
            exact HCL.out _ E1 j hj
          intro g cap9 w5 hown hgrow hor hlg
          (try simp only [Nat.zero_add, List.nil_append] at hown)
          have D2 : Below wr.heap.size wr w5 := Below.grown D1 hgrow (by have := D1.size; omega) (fun q hq => by have h1 : wr.drew.heap.size = q := Option.some.inj hq; have h2 := D0.size; omega)
          have E2 : Below T1 w3 w5 := Below.grown E1 hgrow (by have := E1.size; have := D1.size; omega) (fun q hq => by have h1 : wr.drew.heap.size = q := Option.some.inj hq; have h2 := D0.size; omega)
          have HW5 : Hid (Intw w5 g N (F r)) := Lib.hid (Intw.of_own hown fun j hj => cellsI_get _ hj)
          have hgw : wr.heap.size ≤ g := by
            have h2 := D0.size
            rcases hor with e | e
            · have h1 : wr.drew.heap.size = g := Option.some.inj e; omega
            · rw [e]; exact D1.size
          refine hK.out _ _ (HS.out _ E2) (fun hHeld => ?_)
          clear hK K
          try simp only [act_all]
          clear hown hgrow hor
          refine wpAnyH_ready (rs := [9]) (by kernel_rfl) (by simp) ?_
          refine AllReadyH.cons (o := _) rfl (fun K hK => ?_) AllReadyH.nil
          go_simp
          have D3 : Below wr.heap.size wr (w5.alloc (Obj.cells #[.slice (some ⟨g, 0, none⟩) N cap9] 24)) := bal D2 _
          have E3 : Below T1 w3 (w5.alloc (Obj.cells #[.slice (some ⟨g, 0, none⟩) N cap9] 24)) := E2.alloc (by have := E2.size; have := D2.size; omega) _
          refine hK.out _ _ (HS.out _ E3) (fun hHeld => ?_)
          clear hK K
          try simp only [act_all]
          refine wpAnyH_ready (rs := [10]) (by kernel_rfl) (by simp) ?_
          refine AllReadyH.cons (o := _) rfl (fun K hK => ?_) AllReadyH.nil
          have HWa : Hid (Intw (w5.alloc (Obj.cells #[.slice (some ⟨g, 0, none⟩) N cap9] 24)) g N (F r)) := Lib.hid (HW5.out.keep ((Below.refl _ _).alloc (Nat.le_refl _) _))
          have HT3 := Lib.hid (HTW1.out.keep D3)
          refine step_append_lies _ (by rfl) _ _ 38 (by rfl) (T1 + 2) 24 i1 _ 1 24 Try.underlying38 HJ.out.1 HJ.out.2.1 HJ.out.2.2.1 HJ.out.2.2.2 (by rfl) (by decide) V1 r (rowsC G1 C1 N r) (by rfl) HT3.out.1.2.1 ⟨w5.heap.size, 0, none⟩ 1 1 [.slice (some ⟨g, 0, none⟩) N cap9] (by rfl) rfl (fun j u hu => World.news_of_block (cs := #[.slice (some ⟨g, 0, none⟩) N cap9]) (heap_new w5 _) j u hu) (fun u hu => by simp only [List.mem_cons, List.not_mem_nil, or_false] at hu; subst hu; rfl) (by omega) (by unfold maxLen; omega) (by omega) (by have := D3.size; omega) _ rfl ?_
          intro g' cap' w6 hown' hgrow' hor' hlg'
          have HTW := Lib.hid (HTW1.out.step (w0 := (w5.alloc (Obj.cells #[.slice (some ⟨g, 0, none⟩) N cap9] 24))) (w1 := w6) D3 HWa.out hgw (by have := hlg; simp; omega) hown' hgrow' (hor'.imp id (fun h => Nat.le_of_eq h.symm)))
          have hin := fun x hx => (HT3.out.1.2.1.lt x hx).1
          have y0 : w6.cell? ⟨T1, 0, none⟩ = some V1 := farc hgrow' HT3.out.1.1.1 (fun e => by have h1 := hin _ e.symm; (try simp only at h1); omega)
          have y1 : w6.frozen? ⟨T1, 0, none⟩ = false := farf hgrow' HT3.out.1.1.1 HT3.out.1.1.2 (fun e => by have h1 := hin _ e.symm; (try simp only at h1); omega)
          have E4 : Below T1 w3 w6 := Below.grown E3 hgrow' (by have := E3.size; have := D3.size; omega) (fun q hq => by have h1 := hin q hq; omega)
          have E5 : Below T1 w3 (w6.setCell ⟨T1, 0, none⟩ (.slice (some ⟨g', 0, none⟩) (r + 1) cap')) := E4.setCell (p := ⟨T1, 0, none⟩) (by simp only; omega) _
          refine hK.out _ _ (HS.out _ E4) (fun hHeld => ?_)
          clear hK K
          try simp only [act_all]
          clear hown' hgrow' hor' hin
          refine wpAnyH_take (i := 11) (oi := _) (v := ?_) rfl (by kernel_rfl) (by kernel_rfl) (by kernel_rfl) (fun _ _ _ h => h) (Or.inl ⟨by rfl, ?_⟩) (by assumption) ?_
          rotate_left
          · intro w hSw; obtain ⟨_, _⟩ := hSw; go_simp; (try with_reducible rfl)
          try change wpAnyH _ _ _ _ _ _ _ (Act.put _ (some 58) _) _
          try simp only [act_all]
          refine wpAnyH_ready (rs := [12]) (by kernel_rfl) (by simp) ?_
          refine AllReadyH.cons (o := _) rfl (fun K hK => ?_) AllReadyH.nil
          go_simp
          refine hK.out _ _ (HS.out _ E5) (fun hHeld => ?_)
          clear hK K
          try simp only [act_all]
          refine wpAnyH_done (by kernel_rfl) ?_ _
          clear hHeld
          go_wp2_with fail
          go_meet
          exact ⟨_, _, _, HTW, Lib.hid E5⟩
        refine AllReadyH.cons (o := _) rfl (fun K hK => ?_) AllReadyH.nil
        go_simp
        have D1 : Below wr.heap.size wr (wr.drew.alloc (Obj.cells #[] 3)) := bal D0 _
        have E1 : Below T1 w3 (wr.drew.alloc (Obj.cells #[] 3)) := E0.alloc (by have := D0.size; omega) _
        refine hK.out _ _ (HS.out _ E1) (fun hHeld => ?_)
        clear hK K
        try simp only [act_all]
        refine wpAnyH_ready (rs := [1, 8]) (by kernel_rfl) (by simp) ?_
        refine AllReadyH.cons (o := _) rfl (fun K hK => ?_) ?_
        · have v0 := (HTc.out wr (Below.refl _ _)).1
          have z0 : T1 < wr.heap.size := by omega
          go_simp
          refine hK.out _ _ (HS.out _ E1) (fun hHeld => ?_)
          clear hK K
          try simp only [act_all]
          clear v0 z0
          refine wpAnyH_ready (rs := [8]) (by kernel_rfl) (by simp) ?_
          refine AllReadyH.cons (o := _) rfl (fun K hK => ?_) AllReadyH.nil
          refine step_append_lies _ (by rfl) _ _ 24 (by rfl) wr.drew.heap.size 3 i0 _ 1 8 Try.underlying24 HI.out.1 HI.out.2.1 HI.out.2.2.1 HI.out.2.2.2 (by rfl) (by decide) (.slice (some ⟨wr.drew.heap.size, 0, none⟩) 0 0) 0 [] (by rfl) (World.ownsRow_made wr.drew #[] 0 (Nat.le_refl _) (by unfold maxLen; omega) rfl) ⟨b1, o1, none⟩ N (c r) (cellsI (F r) N) (by rfl) (by rw [cellsI_len]; omega) (fun j u hu => ?_) (cellsI_one _ _) (by omega) (by unfold maxLen; omega) (by omega) (by first | omega | (simp; done) | (simp; omega)) _ rfl ?_
          · have hj : j < N := by have := (List.getElem?_eq_some_iff.1 hu).1; rwa [cellsI_len] at this
            rw [cellsI_get (F r) hj] at hu
            rw [Addr.add_lit, ← hu]
            exact HCL.out _ E1 j hj
          intro g cap9 w5 hown hgrow hor hlg
          (try simp only [Nat.zero_add, List.nil_append] at hown)
          have D2 : Below wr.heap.size wr w5 := Below.grown D1 hgrow (by have := D1.size; omega) (fun q hq => by have h1 : wr.drew.heap.size = q := Option.some.inj hq; have h2 := D0.size; omega)
          have E2 : Below T1 w3 w5 := Below.grown E1 hgrow (by have := E1.size; have := D1.size; omega) (fun q hq => by have h1 : wr.drew.heap.size = q := Option.some.inj hq; have h2 := D0.size; omega)
          have HW5 : Hid (Intw w5 g N (F r)) := Lib.hid (Intw.of_own hown fun j hj => cellsI_get _ hj)
          have hgw : wr.heap.size ≤ g := by
            have h2 := D0.size
            rcases hor with e | e
            · have h1 : wr.drew.heap.size = g := Option.some.inj e; omega
            · rw [e]; exact D1.size
          refine hK.out _ _ (HS.out _ E2) (fun hHeld => ?_)
          clear hK K
          try simp only [act_all]
          clear hown hgrow hor
          refine wpAnyH_ready (rs := [9]) (by kernel_rfl) (by simp) ?_
          refine AllReadyH.cons (o := _) rfl (fun K hK => ?_) AllReadyH.nil
          go_simp
          have D3 : Below wr.heap.size wr (w5.alloc (Obj.cells #[.slice (some ⟨g, 0, none⟩) N cap9] 24)) := bal D2 _
          have E3 : Below T1 w3 (w5.alloc (Obj.cells #[.slice (some ⟨g, 0, none⟩) N cap9] 24)) := E2.alloc (by have := E2.size; have := D2.size; omega) _
          refine hK.out _ _ (HS.out _ E3) (fun hHeld => ?_)
          clear hK K
          try simp only [act_all]
          refine wpAnyH_ready (rs := [10]) (by kernel_rfl) (by simp) ?_
          refine AllReadyH.cons (o := _) rfl (fun K hK => ?_) AllReadyH.nil
          have HWa : Hid (Intw (w5.alloc (Obj.cells #[.slice (some ⟨g, 0, none⟩) N cap9] 24)) g N (F r)) := Lib.hid (HW5.out.keep ((Below.refl _ _).alloc (Nat.le_refl _) _))
          have HT3 := Lib.hid (HTW1.out.keep D3)
          refine step_append_lies _ (by rfl) _ _ 38 (by rfl) (T1 + 2) 24 i1 _ 1 24 Try.underlying38 HJ.out.1 HJ.out.2.1 HJ.out.2.2.1 HJ.out.2.2.2 (by rfl) (by decide) V1 r (rowsC G1 C1 N r) (by rfl) HT3.out.1.2.1 ⟨w5.heap.size, 0, none⟩ 1 1 [.slice (some ⟨g, 0, none⟩) N cap9] (by rfl) rfl (fun j u hu => World.news_of_block (cs := #[.slice (some ⟨g, 0, none⟩) N cap9]) (heap_new w5 _) j u hu) (fun u hu => by simp only [List.mem_cons, List.not_mem_nil, or_false] at hu; subst hu; rfl) (by omega) (by unfold maxLen; omega) (by omega) (by have := D3.size; omega) _ rfl ?_
          intro g' cap' w6 hown' hgrow' hor' hlg'
          have HTW := Lib.hid (HTW1.out.step (w0 := (w5.alloc (Obj.cells #[.slice (some ⟨g, 0, none⟩) N cap9] 24))) (w1 := w6) D3 HWa.out hgw (by have := hlg; simp; omega) hown' hgrow' (hor'.imp id (fun h => Nat.le_of_eq h.symm)))
          have hin := fun x hx => (HT3.out.1.2.1.lt x hx).1
          have y0 : w6.cell? ⟨T1, 0, none⟩ = some V1 := farc hgrow' HT3.out.1.1.1 (fun e => by have h1 := hin _ e.symm; (try simp only at h1); omega)
          have y1 : w6.frozen? ⟨T1, 0, none⟩ = false := farf hgrow' HT3.out.1.1.1 HT3.out.1.1.2 (fun e => by have h1 := hin _ e.symm; (try simp only at h1); omega)
          have E4 : Below T1 w3 w6 := Below.grown E3 hgrow' (by have := E3.size; have := D3.size; omega) (fun q hq => by have h1 := hin q hq; omega)
          have E5 : Below T1 w3 (w6.setCell ⟨T1, 0, none⟩ (.slice (some ⟨g', 0, none⟩) (r + 1) cap')) := E4.setCell (p := ⟨T1, 0, none⟩) (by simp only; omega) _
          refine hK.out _ _ (HS.out _ E4) (fun hHeld => ?_)
          clear hK K
          try simp only [act_all]
          clear hown' hgrow' hor' hin
          refine wpAnyH_take (i := 11) (oi := _) (v := ?_) rfl (by kernel_rfl) (by kernel_rfl) (by kernel_rfl) (fun _ _ _ h => h) (Or.inl ⟨by rfl, ?_⟩) (by assumption) ?_
          rotate_left
          · intro w hSw; obtain ⟨_, _⟩ := hSw; go_simp; (try with_reducible rfl)
          try change wpAnyH _ _ _ _ _ _ _ (Act.put _ (some 58) _) _
          try simp only [act_all]
          refine wpAnyH_ready (rs := [12]) (by kernel_rfl) (by simp) ?_
          refine AllReadyH.cons (o := _) rfl (fun K hK => ?_) AllReadyH.nil
          go_simp
          refine hK.out _ _ (HS.out _ E5) (fun hHeld => ?_)
          clear hK K
          try simp only [act_all]
          refine wpAnyH_done (by kernel_rfl) ?_ _
          clear hHeld
          go_wp2_with fail
          go_meet
          exact ⟨_, _, _, HTW, Lib.hid E5⟩
        refine AllReadyH.cons (o := _) rfl (fun K hK => ?_) AllReadyH.nil
        refine step_append_lies _ (by rfl) _ _ 24 (by rfl) wr.drew.heap.size 3 i0 _ 1 8 Try.underlying24 HI.out.1 HI.out.2.1 HI.out.2.2.1 HI.out.2.2.2 (by rfl) (by decide) (.slice (some ⟨wr.drew.heap.size, 0, none⟩) 0 0) 0 [] (by rfl) (World.ownsRow_made wr.drew #[] 0 (Nat.le_refl _) (by unfold maxLen; omega) rfl) ⟨b1, o1, none⟩ N (c r) (cellsI (F r) N) (by rfl) (by rw [cellsI_len]; omega) (fun j u hu => ?_) (cellsI_one _ _) (by omega) (by unfold maxLen; omega) (by omega) (by first | omega | (simp; done) | (simp; omega)) _ rfl ?_
        · have hj : j < N := by have := (List.getElem?_eq_some_iff.1 hu).1; rwa [cellsI_len] at this
          rw [cellsI_get (F r) hj] at hu
          rw [Addr.add_lit, ← hu]
          exact HCL.out _ E1 j hj
        intro g cap9 w5 hown hgrow hor hlg
        (try simp only [Nat.zero_add, List.nil_append] at hown)
        have D2 : Below wr.heap.size wr w5 := Below.grown D1 hgrow (by have := D1.size; omega) (fun q hq => by have h1 : wr.drew.heap.size = q := Option.some.inj hq; have h2 := D0.size; omega)
        have E2 : Below T1 w3 w5 := Below.grown E1 hgrow (by have := E1.size; have := D1.size; omega) (fun q hq => by have h1 : wr.drew.heap.size = q := Option.some.inj hq; have h2 := D0.size; omega)
        have HW5 : Hid (Intw w5 g N (F r)) := Lib.hid (Intw.of_own hown fun j hj => cellsI_get _ hj)
        have hgw : wr.heap.size ≤ g := by
          have h2 := D0.size
          rcases hor with e | e
          · have h1 : wr.drew.heap.size = g := Option.some.inj e; omega
          · rw [e]; exact D1.size
        refine hK.out _ _ (HS.out _ E2) (fun hHeld => ?_)
        clear hK K
        try simp only [act_all]
        clear hown hgrow hor
        refine wpAnyH_ready (rs := [1, 9]) (by kernel_rfl) (by simp) ?_
        refine AllReadyH.cons (o := _) rfl (fun K hK => ?_) ?_
        · have v0 := (HTc.out w5 D2).1
          have z0 : T1 < w5.heap.size := by have := D2.size; omega
          go_simp
          refine hK.out _ _ (HS.out _ E2) (fun hHeld => ?_)
          clear hK K
          try simp only [act_all]
          clear v0 z0
          refine wpAnyH_ready (rs := [9]) (by kernel_rfl) (by simp) ?_
          refine AllReadyH.cons (o := _) rfl (fun K hK => ?_) AllReadyH.nil
          go_simp
          have D3 : Below wr.heap.size wr (w5.alloc (Obj.cells #[.slice (some ⟨g, 0, none⟩) N cap9] 24)) := bal D2 _
          have E3 : Below T1 w3 (w5.alloc (Obj.cells #[.slice (some ⟨g, 0, none⟩) N cap9] 24)) := E2.alloc (by have := E2.size; have := D2.size; omega) _
          refine hK.out _ _ (HS.out _ E3) (fun hHeld => ?_)
          clear hK K
          try simp only [act_all]
          refine wpAnyH_ready (rs := [10]) (by kernel_rfl) (by simp) ?_
          refine AllReadyH.cons (o := _) rfl (fun K hK => ?_) AllReadyH.nil
          have HWa : Hid (Intw (w5.alloc (Obj.cells #[.slice (some ⟨g, 0, none⟩) N cap9] 24)) g N (F r)) := Lib.hid (HW5.out.keep ((Below.refl _ _).alloc (Nat.le_refl _) _))
          have HT3 := Lib.hid (HTW1.out.keep D3)
          refine step_append_lies _ (by rfl) _ _ 38 (by rfl) (T1 + 2) 24 i1 _ 1 24 Try.underlying38 HJ.out.1 HJ.out.2.1 HJ.out.2.2.1 HJ.out.2.2.2 (by rfl) (by decide) V1 r (rowsC G1 C1 N r) (by rfl) HT3.out.1.2.1 ⟨w5.heap.size, 0, none⟩ 1 1 [.slice (some ⟨g, 0, none⟩) N cap9] (by rfl) rfl (fun j u hu => World.news_of_block (cs := #[.slice (some ⟨g, 0, none⟩) N cap9]) (heap_new w5 _) j u hu) (fun u hu => by simp only [List.mem_cons, List.not_mem_nil, or_false] at hu; subst hu; rfl) (by omega) (by unfold maxLen; omega) (by omega) (by have := D3.size; omega) _ rfl ?_
          intro g' cap' w6 hown' hgrow' hor' hlg'
          have HTW := Lib.hid (HTW1.out.step (w0 := (w5.alloc (Obj.cells #[.slice (some ⟨g, 0, none⟩) N cap9] 24))) (w1 := w6) D3 HWa.out hgw (by have := hlg; simp; omega) hown' hgrow' (hor'.imp id (fun h => Nat.le_of_eq h.symm)))
          have hin := fun x hx => (HT3.out.1.2.1.lt x hx).1
          have y0 : w6.cell? ⟨T1, 0, none⟩ = some V1 := farc hgrow' HT3.out.1.1.1 (fun e => by have h1 := hin _ e.symm; (try simp only at h1); omega)
          have y1 : w6.frozen? ⟨T1, 0, none⟩ = false := farf hgrow' HT3.out.1.1.1 HT3.out.1.1.2 (fun e => by have h1 := hin _ e.symm; (try simp only at h1); omega)
          have E4 : Below T1 w3 w6 := Below.grown E3 hgrow' (by have := E3.size; have := D3.size; omega) (fun q hq => by have h1 := hin q hq; omega)
          have E5 : Below T1 w3 (w6.setCell ⟨T1, 0, none⟩ (.slice (some ⟨g', 0, none⟩) (r + 1) cap')) := E4.setCell (p := ⟨T1, 0, none⟩) (by simp only; omega) _
          refine hK.out _ _ (HS.out _ E4) (fun hHeld => ?_)
          clear hK K
          try simp only [act_all]
          clear hown' hgrow' hor' hin
          refine wpAnyH_take (i := 11) (oi := _) (v := ?_) rfl (by kernel_rfl) (by kernel_rfl) (by kernel_rfl) (fun _ _ _ h => h) (Or.inl ⟨by rfl, ?_⟩) (by assumption) ?_
          rotate_left
          · intro w hSw; obtain ⟨_, _⟩ := hSw; go_simp; (try with_reducible rfl)
          try change wpAnyH _ _ _ _ _ _ _ (Act.put _ (some 58) _) _
          try simp only [act_all]
          refine wpAnyH_ready (rs := [12]) (by kernel_rfl) (by simp) ?_
          refine AllReadyH.cons (o := _) rfl (fun K hK => ?_) AllReadyH.nil
          go_simp
          refine hK.out _ _ (HS.out _ E5) (fun hHeld => ?_)
          clear hK K
          try simp only [act_all]
          refine wpAnyH_done (by kernel_rfl) ?_ _
          clear hHeld
          go_wp2_with fail
          go_meet
          exact ⟨_, _, _, HTW, Lib.hid E5⟩
        refine AllReadyH.cons (o := _) rfl (fun K hK => ?_) AllReadyH.nil
        go_simp
        have D3 : Below wr.heap.size wr (w5.alloc (Obj.cells #[.slice (some ⟨g, 0, none⟩) N cap9] 24)) := bal D2 _
        have E3 : Below T1 w3 (w5.alloc (Obj.cells #[.slice (some ⟨g, 0, none⟩) N cap9] 24)) := E2.alloc (by have := E2.size; have := D2.size; omega) _
        refine hK.out _ _ (HS.out _ E3) (fun hHeld => ?_)
        clear hK K
        try simp only [act_all]
        refine wpAnyH_ready (rs := [1]) (by kernel_rfl) (by simp) ?_
        refine AllReadyH.cons (o := _) rfl (fun K hK => ?_) AllReadyH.nil
        have v0 := (HTc.out w5 D2).1
        have z0 : T1 < w5.heap.size := by have := D2.size; omega
        go_simp
        refine hK.out _ _ (HS.out _ E3) (fun hHeld => ?_)
        clear hK K
        try simp only [act_all]
        clear v0 z0
        refine wpAnyH_ready (rs := [10]) (by kernel_rfl) (by simp) ?_
        refine AllReadyH.cons (o := _) rfl (fun K hK => ?_) AllReadyH.nil
        have HWa : Hid (Intw (w5.alloc (Obj.cells #[.slice (some ⟨g, 0, none⟩) N cap9] 24)) g N (F r)) := Lib.hid (HW5.out.keep ((Below.refl _ _).alloc (Nat.le_refl _) _))
        have HT3 := Lib.hid (HTW1.out.keep D3)
        refine step_append_lies _ (by rfl) _ _ 38 (by rfl) (T1 + 2) 24 i1 _ 1 24 Try.underlying38 HJ.out.1 HJ.out.2.1 HJ.out.2.2.1 HJ.out.2.2.2 (by rfl) (by decide) V1 r (rowsC G1 C1 N r) (by rfl) HT3.out.1.2.1 ⟨w5.heap.size, 0, none⟩ 1 1 [.slice (some ⟨g, 0, none⟩) N cap9] (by rfl) rfl (fun j u hu => World.news_of_block (cs := #[.slice (some ⟨g, 0, none⟩) N cap9]) (heap_new w5 _) j u hu) (fun u hu => by simp only [List.mem_cons, List.not_mem_nil, or_false] at hu; subst hu; rfl) (by omega) (by unfold maxLen; omega) (by omega) (by have := D3.size; omega) _ rfl ?_
        intro g' cap' w6 hown' hgrow' hor' hlg'
        have HTW := Lib.hid (HTW1.out.step (w0 := (w5.alloc (Obj.cells #[.slice (some ⟨g, 0, none⟩) N cap9] 24))) (w1 := w6) D3 HWa.out hgw (by have := hlg; simp; omega) hown' hgrow' (hor'.imp id (fun h => Nat.le_of_eq h.symm)))
        have hin := fun x hx => (HT3.out.1.2.1.lt x hx).1
        have y0 : w6.cell? ⟨T1, 0, none⟩ = some V1 := farc hgrow' HT3.out.1.1.1 (fun e => by have h1 := hin _ e.symm; (try simp only at h1); omega)
        have y1 : w6.frozen? ⟨T1, 0, none⟩ = false := farf hgrow' HT3.out.1.1.1 HT3.out.1.1.2 (fun e => by have h1 := hin _ e.symm; (try simp only at h1); omega)
        have E4 : Below T1 w3 w6 := Below.grown E3 hgrow' (by have := E3.size; have := D3.size; omega) (fun q hq => by have h1 := hin q hq; omega)
        have E5 : Below T1 w3 (w6.setCell ⟨T1, 0, none⟩ (.slice (some ⟨g', 0, none⟩) (r + 1) cap')) := E4.setCell (p := ⟨T1, 0, none⟩) (by simp only; omega) _
        refine hK.out _ _ (HS.out _ E4) (fun hHeld => ?_)
        clear hK K
        try simp only [act_all]
        clear hown' hgrow' hor' hin
        refine wpAnyH_take (i := 11) (oi := _) (v := ?_) rfl (by kernel_rfl) (by kernel_rfl) (by kernel_rfl) (fun _ _ _ h => h) (Or.inl ⟨by rfl, ?_⟩) (by assumption) ?_
        rotate_left
        · intro w hSw; obtain ⟨_, _⟩ := hSw; go_simp; (try with_reducible rfl)
        try change wpAnyH _ _ _ _ _ _ _ (Act.put _ (some 58) _) _
        try simp only [act_all]
        refine wpAnyH_ready (rs := [12]) (by kernel_rfl) (by simp) ?_
        refine AllReadyH.cons (o := _) rfl (fun K hK => ?_) AllReadyH.nil
        go_simp
        refine hK.out _ _ (HS.out _ E5) (fun hHeld => ?_)
        clear hK K
        try simp only [act_all]
        refine wpAnyH_done (by kernel_rfl) ?_ _
        clear hHeld
        go_wp2_with fail
        go_meet
        exact ⟨_, _, _, HTW, Lib.hid E5⟩
      case rest =>
        obtain ⟨V1', G1', C1', HTW2, HB2'⟩ := hcut
        have hTB2 : T1 + 2 ≤ wc.heap.size := HTW2.out.2.2.2.2.2.2.1
        have HTWs := Lib.hid HTW2.out.symm
        clear HTW1 HB hTB HTW2
        obtain ⟨wr, rfl⟩ : ∃ wr : World, wr = wc := ⟨_, rfl⟩
        go_upto_region 12 with fail
        have HTc : Hid (∀ w', Below wr.heap.size wr w' → w'.cell? ⟨T1 + 1, 0, none⟩ = some V2 ∧ True) := Lib.hid (fun w' hb => ⟨(HTWs.out.keep hb).1.1.1, trivial⟩)
        have D0 : Below wr.heap.size wr wr.drew := (Below.refl _ _).drew
        have E0 : Below T1 w3 wr.drew := HB2'.out.drew
        refine wp_region_held_drew (S := fun w' => w'.cell? ⟨w.heap.size, 0, none⟩ = some (.slice (some ⟨b0, o0, none⟩) N cap) ∧ w'.cell? ⟨b0, o0 + r, none⟩ = some (.slice (some ⟨b1, o1, none⟩) N (c r))) (by kernel_rfl) (HS.out _ E0) (fun hHeld => ?_)
        refine wpAnyH_take (i := 0) (oi := _) (v := ?_) rfl (by kernel_rfl) (by kernel_rfl) (by kernel_rfl) (fun _ _ _ h => h) (Or.inl ⟨by rfl, ?_⟩) (by assumption) ?_
        rotate_left
        · intro w hSw; obtain ⟨_, _⟩ := hSw; go_simp; (try with_reducible rfl)
        try change wpAnyH _ _ _ _ _ _ _ (Act.put _ (some 59) _) _
        try simp only [act_all]
        refine wpAnyH_take (i := 3) (oi := _) (v := ?_) rfl (by kernel_rfl) (by kernel_rfl) (by kernel_rfl) (fun _ _ _ h => h) (Or.inl ⟨by rfl, ?_⟩) (by assumption) ?_
        rotate_left
        · intro w hSw; obtain ⟨_, _⟩ := hSw; go_simp; (try with_reducible rfl)
        try change wpAnyH _ _ _ _ _ _ _ (Act.put _ (some 62) _) _
        try simp only [act_all]
        refine wpAnyH_take (i := 4) (oi := _) (v := ?_) rfl (by kernel_rfl) (by kernel_rfl) (by kernel_rfl) (fun _ _ _ h => h) (Or.inl ⟨by rfl, ?_⟩) (by assumption) ?_
        rotate_left
        · intro w hSw; obtain ⟨_, _⟩ := hSw; go_simp; (try with_reducible rfl)
        try change wpAnyH _ _ _ _ _ _ _ (Act.put _ (some 63) _) _
        try simp only [act_all]
        refine wpAnyH_take (i := 5) (oi := _) (v := ?_) rfl (by kernel_rfl) (by kernel_rfl) (by kernel_rfl) (fun _ _ _ h => h) (Or.inl ⟨by rfl, ?_⟩) (by assumption) ?_
        rotate_left
        · intro w hSw; obtain ⟨_, _⟩ := hSw; go_simp; (try with_reducible rfl)
        try change wpAnyH _ _ _ _ _ _ _ (Act.put _ (some 64) _) _
        try simp only [act_all]
        refine wpAnyH_take (i := 6) (oi := _) (v := ?_) rfl (by kernel_rfl) (by kernel_rfl) (by kernel_rfl) (fun _ _ _ h => h) (Or.inl ⟨by rfl, ?_⟩) (by assumption) ?_
        rotate_left
        · intro w hSw; obtain ⟨_, _⟩ := hSw; go_simp; (try with_reducible rfl)
        try change wpAnyH _ _ _ _ _ _ _ (Act.put _ (some 65) _) _
        try simp only [act_all]
        refine wpAnyH_take (i := 7) (oi := _) (v := ?_) rfl (by kernel_rfl) (by kernel_rfl) (by kernel_rfl) (fun _ _ _ h => h) (Or.inl ⟨by rfl, ?_⟩) (by assumption) ?_
        rotate_left
        · intro w hSw; obtain ⟨_, _⟩ := hSw; go_simp; (try with_reducible rfl)
        try change wpAnyH _ _ _ _ _ _ _ (Act.put _ (some 66) _) _
        try simp only [act_all]
        refine wpAnyH_ready (rs := [1, 2]) (by kernel_rfl) (by simp) ?_
        refine AllReadyH.cons (o := _) rfl (fun K hK => ?_) ?_
        · have v0 := (HTc.out wr (Below.refl _ _)).1
          have z0 : T1 + 1 < wr.heap.size := by omega
          go_simp
          refine hK.out _ _ (HS.out _ E0) (fun hHeld => ?_)
          clear hK K
          try simp only [act_all]
          clear v0 z0
          refine wpAnyH_ready (rs := [2]) (by kernel_rfl) (by simp) ?_
          refine AllReadyH.cons (o := _) rfl (fun K hK => ?_) AllReadyH.nil
          go_simp
          have D1 : Below wr.heap.size wr (wr.drew.alloc (Obj.cells #[] 3)) := bal D0 _
          have E1 : Below T1 w3 (wr.drew.alloc (Obj.cells #[] 3)) := E0.alloc (by have := D0.size; omega) _
          refine hK.out _ _ (HS.out _ E1) (fun hHeld => ?_)
          clear hK K
          try simp only [act_all]
          refine wpAnyH_ready (rs := [8]) (by kernel_rfl) (by simp) ?_
          refine AllReadyH.cons (o := _) rfl (fun K hK => ?_) AllReadyH.nil
          refine step_append_lies _ (by rfl) _ _ 24 (by rfl) wr.drew.heap.size 3 i0 _ 1 8 Try.underlying24 HI.out.1 HI.out.2.1 HI.out.2.2.1 HI.out.2.2.2 (by rfl) (by decide) (.slice (some ⟨wr.drew.heap.size, 0, none⟩) 0 0) 0 [] (by rfl) (World.ownsRow_made wr.drew #[] 0 (Nat.le_refl _) (by unfold maxLen; omega) rfl) ⟨b1, o1, none⟩ N (c r) (cellsI (F r) N) (by rfl) (by rw [cellsI_len]; omega) (fun j u hu => ?_) (cellsI_one _ _) (by omega) (by unfold maxLen; omega) (by omega) (by first | omega | (simp; done) | (simp; omega)) _ rfl ?_
          · have hj : j < N := by have := (List.getElem?_eq_some_iff.1 hu).1; rwa [cellsI_len] at this
            rw [cellsI_get (F r) hj] at hu
            rw [Addr.add_lit, ← hu]
            exact HCL.out _ E1 j hj
          intro g cap9 w5 hown hgrow hor hlg
          (try simp only [Nat.zero_add, List.nil_append] at hown)
          have D2 : Below wr.heap.size wr w5 := Below.grown D1 hgrow (by have := D1.size; omega) (fun q hq => by have h1 : wr.drew.heap.size = q := Option.some.inj hq; have h2 := D0.size; omega)
          have E2 : Below T1 w3 w5 := Below.grown E1 hgrow (by have := E1.size; have := D1.size; omega) (fun q hq => by have h1 : wr.drew.heap.size = q := Option.some.inj hq; have h2 := D0.size; omega)
          have HW5 : Hid (Intw w5 g N (F r)) := Lib.hid (Intw.of_own hown fun j hj => cellsI_get _ hj)
          have hgw : wr.heap.size ≤ g := by
            have h2 := D0.size
            rcases hor with e | e
            · have h1 : wr.drew.heap.size = g := Option.some.inj e; omega
            · rw [e]; exact D1.size
          refine hK.out _ _ (HS.out _ E2) (fun hHeld => ?_)
          clear hK K
          try simp only [act_all]
          clear hown hgrow hor
          refine wpAnyH_ready (rs := [9]) (by kernel_rfl) (by simp) ?_
          refine AllReadyH.cons (o := _) rfl (fun K hK => ?_) AllReadyH.nil
          go_simp
          have D3 : Below wr.heap.size wr (w5.alloc (Obj.cells #[.slice (some ⟨g, 0, none⟩) N cap9] 24)) := bal D2 _
          have E3 : Below T1 w3 (w5.alloc (Obj.cells #[.slice (some ⟨g, 0, none⟩) N cap9] 24)) := E2.alloc (by have := E2.size; have := D2.size; omega) _
          refine hK.out _ _ (HS.out _ E3) (fun hHeld => ?_)
          clear hK K
          try simp only [act_all]
          refine wpAnyH_ready (rs := [10]) (by kernel_rfl) (by simp) ?_
          refine AllReadyH.cons (o := _) rfl (fun K hK => ?_) AllReadyH.nil
          have HWa : Hid (Intw (w5.alloc (Obj.cells #[.slice (some ⟨g, 0, none⟩) N cap9] 24)) g N (F r)) := Lib.hid (HW5.out.keep ((Below.refl _ _).alloc (Nat.le_refl _) _))
          have HT3 := Lib.hid (HTWs.out.keep D3)
          refine step_append_lies _ (by rfl) _ _ 38 (by rfl) (T1 + 2) 24 i1 _ 1 24 Try.underlying38 HJ.out.1 HJ.out.2.1 HJ.out.2.2.1 HJ.out.2.2.2 (by rfl) (by decide) V2 r (rowsC G2 C2 N r) (by rfl) HT3.out.1.2.1 ⟨w5.heap.size, 0, none⟩ 1 1 [.slice (some ⟨g, 0, none⟩) N cap9] (by rfl) rfl (fun j u hu => World.news_of_block (cs := #[.slice (some ⟨g, 0, none⟩) N cap9]) (heap_new w5 _) j u hu) (fun u hu => by simp only [List.mem_cons, List.not_mem_nil, or_false] at hu; subst hu; rfl) (by omega) (by unfold maxLen; omega) (by omega) (by have := D3.size; omega) _ rfl ?_
          intro g' cap' w6 hown' hgrow' hor' hlg'
          have HTW := Lib.hid (HTWs.out.step (w0 := (w5.alloc (Obj.cells #[.slice (some ⟨g, 0, none⟩) N cap9] 24))) (w1 := w6) D3 HWa.out hgw (by have := hlg; simp; omega) hown' hgrow' (hor'.imp id (fun h => Nat.le_of_eq h.symm)))
          have hin := fun x hx => (HT3.out.1.2.1.lt x hx).1
          have y0 : w6.cell? ⟨T1 + 1, 0, none⟩ = some V2 := farc hgrow' HT3.out.1.1.1 (fun e => by have h1 := hin _ e.symm; (try simp only at h1); omega)
          have y1 : w6.frozen? ⟨T1 + 1, 0, none⟩ = false := farf hgrow' HT3.out.1.1.1 HT3.out.1.1.2 (fun e => by have h1 := hin _ e.symm; (try simp only at h1); omega)
          have E4 : Below T1 w3 w6 := Below.grown E3 hgrow' (by have := E3.size; have := D3.size; omega) (fun q hq => by have h1 := hin q hq; omega)
          have E5 : Below T1 w3 (w6.setCell ⟨T1 + 1, 0, none⟩ (.slice (some ⟨g', 0, none⟩) (r + 1) cap')) := E4.setCell (p := ⟨T1 + 1, 0, none⟩) (by simp only; omega) _
          refine hK.out _ _ (HS.out _ E4) (fun hHeld => ?_)
          clear hK K
          try simp only [act_all]
          clear hown' hgrow' hor' hin
          refine wpAnyH_take (i := 11) (oi := _) (v := ?_) rfl (by kernel_rfl) (by kernel_rfl) (by kernel_rfl) (fun _ _ _ h => h) (Or.inl ⟨by rfl, ?_⟩) (by assumption) ?_
          rotate_left
          · intro w hSw; obtain ⟨_, _⟩ := hSw; go_simp; (try with_reducible rfl)
          try change wpAnyH _ _ _ _ _ _ _ (Act.put _ (some 70) _) _
          try simp only [act_all]
          refine wpAnyH_ready (rs := [12]) (by kernel_rfl) (by simp) ?_
          refine AllReadyH.cons (o := _) rfl (fun K hK => ?_) AllReadyH.nil
          go_simp
          refine hK.out _ _ (HS.out _ E5) (fun hHeld => ?_)
          clear hK K
          try simp only [act_all]
          refine wpAnyH_done (by kernel_rfl) ?_ _
          clear hHeld
          go_wp2_with fail
          have HTV := Lib.hid HTW.out.symm
          have hTB3 : T1 + 2 ≤ (w6.setCell ⟨T1 + 1, 0, none⟩ (.slice (some ⟨g', 0, none⟩) (r + 1) cap')).heap.size := HTV.out.2.2.2.2.2.2.1
          have HE5 := Lib.hid E5
          clear HTW HTWs HB2' HS HCL hTB2 y0 y1 E0 E1 E2 E3 E4 E5 D0 D1 D2 D3 HT3 HWa HW5 HTc
          go_roundw
          case rel => exact ⟨(r : Int) + 1, r + 1, V1', _, G1', C1', _, _, by first | rfl | (rw [show wrap64 ((r : Int) + 1) = (r : Int) + 1 by simp only [wrap64]; omega]), by omega, by omega, HTV, HE5, hTB3⟩
          case measure => first | (simp [intOf]; done) | (simp [intOf]; omega)
        refine AllReadyH.cons (o := _) rfl (fun K hK => ?_) AllReadyH.nil
        go_simp
        have D1 : Below wr.heap.size wr (wr.drew.alloc (Obj.cells #[] 3)) := bal D0 _
        have E1 : Below T1 w3 (wr.drew.alloc (Obj.cells #[] 3)) := E0.alloc (by have := D0.size; omega) _
        refine hK.out _ _ (HS.out _ E1) (fun hHeld => ?_)
        clear hK K
        try simp only [act_all]
        refine wpAnyH_ready (rs := [1, 8]) (by kernel_rfl) (by simp) ?_
        refine AllReadyH.cons (o := _) rfl (fun K hK => ?_) ?_
        · have v0 := (HTc.out wr (Below.refl _ _)).1
          have z0 : T1 + 1 < wr.heap.size := by omega
          go_simp
          refine hK.out _ _ (HS.out _ E1) (fun hHeld => ?_)
          clear hK K
          try simp only [act_all]
          clear v0 z0
          refine wpAnyH_ready (rs := [8]) (by kernel_rfl) (by simp) ?_
          refine AllReadyH.cons (o := _) rfl (fun K hK => ?_) AllReadyH.nil
          refine step_append_lies _ (by rfl) _ _ 24 (by rfl) wr.drew.heap.size 3 i0 _ 1 8 Try.underlying24 HI.out.1 HI.out.2.1 HI.out.2.2.1 HI.out.2.2.2 (by rfl) (by decide) (.slice (some ⟨wr.drew.heap.size, 0, none⟩) 0 0) 0 [] (by rfl) (World.ownsRow_made wr.drew #[] 0 (Nat.le_refl _) (by unfold maxLen; omega) rfl) ⟨b1, o1, none⟩ N (c r) (cellsI (F r) N) (by rfl) (by rw [cellsI_len]; omega) (fun j u hu => ?_) (cellsI_one _ _) (by omega) (by unfold maxLen; omega) (by omega) (by first | omega | (simp; done) | (simp; omega)) _ rfl ?_
          · have hj : j < N := by have := (List.getElem?_eq_some_iff.1 hu).1; rwa [cellsI_len] at this
            rw [cellsI_get (F r) hj] at hu
            rw [Addr.add_lit, ← hu]
            exact HCL.out _ E1 j hj
          intro g cap9 w5 hown hgrow hor hlg
          (try simp only [Nat.zero_add, List.nil_append] at hown)
          have D2 : Below wr.heap.size wr w5 := Below.grown D1 hgrow (by have := D1.size; omega) (fun q hq => by have h1 : wr.drew.heap.size = q := Option.some.inj hq; have h2 := D0.size; omega)
          have E2 : Below T1 w3 w5 := Below.grown E1 hgrow (by have := E1.size; have := D1.size; omega) (fun q hq => by have h1 : wr.drew.heap.size = q := Option.some.inj hq; have h2 := D0.size; omega)
          have HW5 : Hid (Intw w5 g N (F r)) := Lib.hid (Intw.of_own hown fun j hj => cellsI_get _ hj)
          have hgw : wr.heap.size ≤ g := by
            have h2 := D0.size
            rcases hor with e | e
            · have h1 : wr.drew.heap.size = g := Option.some.inj e; omega
            · rw [e]; exact D1.size
          refine hK.out _ _ (HS.out _ E2) (fun hHeld => ?_)
          clear hK K
          try simp only [act_all]
          clear hown hgrow hor
          refine wpAnyH_ready (rs := [9]) (by kernel_rfl) (by simp) ?_
          refine AllReadyH.cons (o := _) rfl (fun K hK => ?_) AllReadyH.nil
          go_simp
          have D3 : Below wr.heap.size wr (w5.alloc (Obj.cells #[.slice (some ⟨g, 0, none⟩) N cap9] 24)) := bal D2 _
          have E3 : Below T1 w3 (w5.alloc (Obj.cells #[.slice (some ⟨g, 0, none⟩) N cap9] 24)) := E2.alloc (by have := E2.size; have := D2.size; omega) _
          refine hK.out _ _ (HS.out _ E3) (fun hHeld => ?_)
          clear hK K
          try simp only [act_all]
          refine wpAnyH_ready (rs := [10]) (by kernel_rfl) (by simp) ?_
          refine AllReadyH.cons (o := _) rfl (fun K hK => ?_) AllReadyH.nil
          have HWa : Hid (Intw (w5.alloc (Obj.cells #[.slice (some ⟨g, 0, none⟩) N cap9] 24)) g N (F r)) := Lib.hid (HW5.out.keep ((Below.refl _ _).alloc (Nat.le_refl _) _))
          have HT3 := Lib.hid (HTWs.out.keep D3)
          refine step_append_lies _ (by rfl) _ _ 38 (by rfl) (T1 + 2) 24 i1 _ 1 24 Try.underlying38 HJ.out.1 HJ.out.2.1 HJ.out.2.2.1 HJ.out.2.2.2 (by rfl) (by decide) V2 r (rowsC G2 C2 N r) (by rfl) HT3.out.1.2.1 ⟨w5.heap.size, 0, none⟩ 1 1 [.slice (some ⟨g, 0, none⟩) N cap9] (by rfl) rfl (fun j u hu => World.news_of_block (cs := #[.slice (some ⟨g, 0, none⟩) N cap9]) (heap_new w5 _) j u hu) (fun u hu => by simp only [List.mem_cons, List.not_mem_nil, or_false] at hu; subst hu; rfl) (by omega) (by unfold maxLen; omega) (by omega) (by have := D3.size; omega) _ rfl ?_
          intro g' cap' w6 hown' hgrow' hor' hlg'
          have HTW := Lib.hid (HTWs.out.step (w0 := (w5.alloc (Obj.cells #[.slice (some ⟨g, 0, none⟩) N cap9] 24))) (w1 := w6) D3 HWa.out hgw (by have := hlg; simp; omega) hown' hgrow' (hor'.imp id (fun h => Nat.le_of_eq h.symm)))
          have hin := fun x hx => (HT3.out.1.2.1.lt x hx).1
          have y0 : w6.cell? ⟨T1 + 1, 0, none⟩ = some V2 := farc hgrow' HT3.out.1.1.1 (fun e => by have h1 := hin _ e.symm; (try simp only at h1); omega)
          have y1 : w6.frozen? ⟨T1 + 1, 0, none⟩ = false := farf hgrow' HT3.out.1.1.1 HT3.out.1.1.2 (fun e => by have h1 := hin _ e.symm; (try simp only at h1); omega)
          have E4 : Below T1 w3 w6 := Below.grown E3 hgrow' (by have := E3.size; have := D3.size; omega) (fun q hq => by have h1 := hin q hq; omega)
          have E5 : Below T1 w3 (w6.setCell ⟨T1 + 1, 0, none⟩ (.slice (some ⟨g', 0, none⟩) (r + 1) cap')) := E4.setCell (p := ⟨T1 + 1, 0, none⟩) (by simp only; omega) _
          refine hK.out _ _ (HS.out _ E4) (fun hHeld => ?_)
          clear hK K
          try simp only [act_all]
          clear hown' hgrow' hor' hin
          refine wpAnyH_take (i := 11) (oi := _) (v := ?_) rfl (by kernel_rfl) (by kernel_rfl) (by kernel_rfl) (fun _ _ _ h => h) (Or.inl ⟨by rfl, ?_⟩) (by assumption) ?_
          rotate_left
          · intro w hSw; obtain ⟨_, _⟩ := hSw; go_simp; (try with_reducible rfl)
          try change wpAnyH _ _ _ _ _ _ _ (Act.put _ (some 70) _) _
          try simp only [act_all]
          refine wpAnyH_ready (rs := [12]) (by kernel_rfl) (by simp) ?_
          refine AllReadyH.cons (o := _) rfl (fun K hK => ?_) AllReadyH.nil
          go_simp
          refine hK.out _ _ (HS.out _ E5) (fun hHeld => ?_)
          clear hK K
          try simp only [act_all]
          refine wpAnyH_done (by kernel_rfl) ?_ _
          clear hHeld
          go_wp2_with fail
          have HTV := Lib.hid HTW.out.symm
          have hTB3 : T1 + 2 ≤ (w6.setCell ⟨T1 + 1, 0, none⟩ (.slice (some ⟨g', 0, none⟩) (r + 1) cap')).heap.size := HTV.out.2.2.2.2.2.2.1
          have HE5 := Lib.hid E5
          clear HTW HTWs HB2' HS HCL hTB2 y0 y1 E0 E1 E2 E3 E4 E5 D0 D1 D2 D3 HT3 HWa HW5 HTc
          go_roundw
          case rel => exact ⟨(r : Int) + 1, r + 1, V1', _, G1', C1', _, _, by first | rfl | (rw [show wrap64 ((r : Int) + 1) = (r : Int) + 1 by simp only [wrap64]; omega]), by omega, by omega, HTV, HE5, hTB3⟩
          case measure => first | (simp [intOf]; done) | (simp [intOf]; omega)
        refine AllReadyH.cons (o := _) rfl (fun K hK => ?_) AllReadyH.nil
        refine step_append_lies _ (by rfl) _ _ 24 (by rfl) wr.drew.heap.size 3 i0 _ 1 8 Try.underlying24 HI.out.1 HI.out.2.1 HI.out.2.2.1 HI.out.2.2.2 (by rfl) (by decide) (.slice (some ⟨wr.drew.heap.size, 0, none⟩) 0 0) 0 [] (by rfl) (World.ownsRow_made wr.drew #[] 0 (Nat.le_refl _) (by unfold maxLen; omega) rfl) ⟨b1, o1, none⟩ N (c r) (cellsI (F r) N) (by rfl) (by rw [cellsI_len]; omega) (fun j u hu => ?_) (cellsI_one _ _) (by omega) (by unfold maxLen; omega) (by omega) (by first | omega | (simp; done) | (simp; omega)) _ rfl ?_
        · have hj : j < N := by have := (List.getElem?_eq_some_iff.1 hu).1; rwa [cellsI_len] at this
          rw [cellsI_get (F r) hj] at hu
          rw [Addr.add_lit, ← hu]
          exact HCL.out _ E1 j hj
        intro g cap9 w5 hown hgrow hor hlg
        (try simp only [Nat.zero_add, List.nil_append] at hown)
        have D2 : Below wr.heap.size wr w5 := Below.grown D1 hgrow (by have := D1.size; omega) (fun q hq => by have h1 : wr.drew.heap.size = q := Option.some.inj hq; have h2 := D0.size; omega)
        have E2 : Below T1 w3 w5 := Below.grown E1 hgrow (by have := E1.size; have := D1.size; omega) (fun q hq => by have h1 : wr.drew.heap.size = q := Option.some.inj hq; have h2 := D0.size; omega)
        have HW5 : Hid (Intw w5 g N (F r)) := Lib.hid (Intw.of_own hown fun j hj => cellsI_get _ hj)
        have hgw : wr.heap.size ≤ g := by
          have h2 := D0.size
          rcases hor with e | e
          · have h1 : wr.drew.heap.size = g := Option.some.inj e; omega
          · rw [e]; exact D1.size
        refine hK.out _ _ (HS.out _ E2) (fun hHeld => ?_)
        clear hK K
        try simp only [act_all]
        clear hown hgrow hor
        refine wpAnyH_ready (rs := [1, 9]) (by kernel_rfl) (by simp) ?_
        refine AllReadyH.cons (o := _) rfl (fun K hK => ?_) ?_
        · have v0 := (HTc.out w5 D2).1
          have z0 : T1 + 1 < w5.heap.size := by have := D2.size; omega
          go_simp
          refine hK.out _ _ (HS.out _ E2) (fun hHeld => ?_)
          clear hK K
          try simp only [act_all]
          clear v0 z0
          refine wpAnyH_ready (rs := [9]) (by kernel_rfl) (by simp) ?_
          refine AllReadyH.cons (o := _) rfl (fun K hK => ?_) AllReadyH.nil
          go_simp
          have D3 : Below wr.heap.size wr (w5.alloc (Obj.cells #[.slice (some ⟨g, 0, none⟩) N cap9] 24)) := bal D2 _
          have E3 : Below T1 w3 (w5.alloc (Obj.cells #[.slice (some ⟨g, 0, none⟩) N cap9] 24)) := E2.alloc (by have := E2.size; have := D2.size; omega) _
          refine hK.out _ _ (HS.out _ E3) (fun hHeld => ?_)
          clear hK K
          try simp only [act_all]
          refine wpAnyH_ready (rs := [10]) (by kernel_rfl) (by simp) ?_
          refine AllReadyH.cons (o := _) rfl (fun K hK => ?_) AllReadyH.nil
          have HWa : Hid (Intw (w5.alloc (Obj.cells #[.slice (some ⟨g, 0, none⟩) N cap9] 24)) g N (F r)) := Lib.hid (HW5.out.keep ((Below.refl _ _).alloc (Nat.le_refl _) _))
          have HT3 := Lib.hid (HTWs.out.keep D3)
          refine step_append_lies _ (by rfl) _ _ 38 (by rfl) (T1 + 2) 24 i1 _ 1 24 Try.underlying38 HJ.out.1 HJ.out.2.1 HJ.out.2.2.1 HJ.out.2.2.2 (by rfl) (by decide) V2 r (rowsC G2 C2 N r) (by rfl) HT3.out.1.2.1 ⟨w5.heap.size, 0, none⟩ 1 1 [.slice (some ⟨g, 0, none⟩) N cap9] (by rfl) rfl (fun j u hu => World.news_of_block (cs := #[.slice (some ⟨g, 0, none⟩) N cap9]) (heap_new w5 _) j u hu) (fun u hu => by simp only [List.mem_cons, List.not_mem_nil, or_false] at hu; subst hu; rfl) (by omega) (by unfold maxLen; omega) (by omega) (by have := D3.size; omega) _ rfl ?_
          intro g' cap' w6 hown' hgrow' hor' hlg'
          have HTW := Lib.hid (HTWs.out.step (w0 := (w5.alloc (Obj.cells #[.slice (some ⟨g, 0, none⟩) N cap9] 24))) (w1 := w6) D3 HWa.out hgw (by have := hlg; simp; omega) hown' hgrow' (hor'.imp id (fun h => Nat.le_of_eq h.symm)))
          have hin := fun x hx => (HT3.out.1.2.1.lt x hx).1
          have y0 : w6.cell? ⟨T1 + 1, 0, none⟩ = some V2 := farc hgrow' HT3.out.1.1.1 (fun e => by have h1 := hin _ e.symm; (try simp only at h1); omega)
          have y1 : w6.frozen? ⟨T1 + 1, 0, none⟩ = false := farf hgrow' HT3.out.1.1.1 HT3.out.1.1.2 (fun e => by have h1 := hin _ e.symm; (try simp only at h1); omega)
          have E4 : Below T1 w3 w6 := Below.grown E3 hgrow' (by have := E3.size; have := D3.size; omega) (fun q hq => by have h1 := hin q hq; omega)
          have E5 : Below T1 w3 (w6.setCell ⟨T1 + 1, 0, none⟩ (.slice (some ⟨g', 0, none⟩) (r + 1) cap')) := E4.setCell (p := ⟨T1 + 1, 0, none⟩) (by simp only; omega) _
          refine hK.out _ _ (HS.out _ E4) (fun hHeld => ?_)
          clear hK K
          try simp only [act_all]
          clear hown' hgrow' hor' hin
          refine wpAnyH_take (i := 11) (oi := _) (v := ?_) rfl (by kernel_rfl) (by kernel_rfl) (by kernel_rfl) (fun _ _ _ h => h) (Or.inl ⟨by rfl, ?_⟩) (by assumption) ?_
          rotate_left
          · intro w hSw; obtain ⟨_, _⟩ := hSw; go_simp; (try with_reducible rfl)
          try change wpAnyH _ _ _ _ _ _ _ (Act.put _ (some 70) _) _
          try simp only [act_all]
          refine wpAnyH_ready (rs := [12]) (by kernel_rfl) (by simp) ?_
          refine AllReadyH.cons (o := _) rfl (fun K hK => ?_) AllReadyH.nil
          go_simp
          refine hK.out _ _ (HS.out _ E5) (fun hHeld => ?_)
          clear hK K
          try simp only [act_all]
          refine wpAnyH_done (by kernel_rfl) ?_ _
          clear hHeld
          go_wp2_with fail
          have HTV := Lib.hid HTW.out.symm
          have hTB3 : T1 + 2 ≤ (w6.setCell ⟨T1 + 1, 0, none⟩ (.slice (some ⟨g', 0, none⟩) (r + 1) cap')).heap.size := HTV.out.2.2.2.2.2.2.1
          have HE5 := Lib.hid E5
          clear HTW HTWs HB2' HS HCL hTB2 y0 y1 E0 E1 E2 E3 E4 E5 D0 D1 D2 D3 HT3 HWa HW5 HTc
          go_roundw
          case rel => exact ⟨(r : Int) + 1, r + 1, V1', _, G1', C1', _, _, by first | rfl | (rw [show wrap64 ((r : Int) + 1) = (r : Int) + 1 by simp only [wrap64]; omega]), by omega, by omega, HTV, HE5, hTB3⟩
          case measure => first | (simp [intOf]; done) | (simp [intOf]; omega)
        refine AllReadyH.cons (o := _) rfl (fun K hK => ?_) AllReadyH.nil
        go_simp
        have D3 : Below wr.heap.size wr (w5.alloc (Obj.cells #[.slice (some ⟨g, 0, none⟩) N cap9] 24)) := bal D2 _
        have E3 : Below T1 w3 (w5.alloc (Obj.cells #[.slice (some ⟨g, 0, none⟩) N cap9] 24)) := E2.alloc (by have := E2.size; have := D2.size; omega) _
        refine hK.out _ _ (HS.out _ E3) (fun hHeld => ?_)
        clear hK K
        try simp only [act_all]
        refine wpAnyH_ready (rs := [1]) (by kernel_rfl) (by simp) ?_
        refine AllReadyH.cons (o := _) rfl (fun K hK => ?_) AllReadyH.nil
        have v0 := (HTc.out w5 D2).1
        have z0 : T1 + 1 < w5.heap.size := by have := D2.size; omega
        go_simp
        refine hK.out _ _ (HS.out _ E3) (fun hHeld => ?_)
        clear hK K
        try simp only [act_all]
        clear v0 z0
        refine wpAnyH_ready (rs := [10]) (by kernel_rfl) (by simp) ?_
        refine AllReadyH.cons (o := _) rfl (fun K hK => ?_) AllReadyH.nil
        have HWa : Hid (Intw (w5.alloc (Obj.cells #[.slice (some ⟨g, 0, none⟩) N cap9] 24)) g N (F r)) := Lib.hid (HW5.out.keep ((Below.refl _ _).alloc (Nat.le_refl _) _))
        have HT3 := Lib.hid (HTWs.out.keep D3)
        refine step_append_lies _ (by rfl) _ _ 38 (by rfl) (T1 + 2) 24 i1 _ 1 24 Try.underlying38 HJ.out.1 HJ.out.2.1 HJ.out.2.2.1 HJ.out.2.2.2 (by rfl) (by decide) V2 r (rowsC G2 C2 N r) (by rfl) HT3.out.1.2.1 ⟨w5.heap.size, 0, none⟩ 1 1 [.slice (some ⟨g, 0, none⟩) N cap9] (by rfl) rfl (fun j u hu => World.news_of_block (cs := #[.slice (some ⟨g, 0, none⟩) N cap9]) (heap_new w5 _) j u hu) (fun u hu => by simp only [List.mem_cons, List.not_mem_nil, or_false] at hu; subst hu; rfl) (by omega) (by unfold maxLen; omega) (by omega) (by have := D3.size; omega) _ rfl ?_
        intro g' cap' w6 hown' hgrow' hor' hlg'
        have HTW := Lib.hid (HTWs.out.step (w0 := (w5.alloc (Obj.cells #[.slice (some ⟨g, 0, none⟩) N cap9] 24))) (w1 := w6) D3 HWa.out hgw (by have := hlg; simp; omega) hown' hgrow' (hor'.imp id (fun h => Nat.le_of_eq h.symm)))
        have hin := fun x hx => (HT3.out.1.2.1.lt x hx).1
        have y0 : w6.cell? ⟨T1 + 1, 0, none⟩ = some V2 := farc hgrow' HT3.out.1.1.1 (fun e => by have h1 := hin _ e.symm; (try simp only at h1); omega)
        have y1 : w6.frozen? ⟨T1 + 1, 0, none⟩ = false := farf hgrow' HT3.out.1.1.1 HT3.out.1.1.2 (fun e => by have h1 := hin _ e.symm; (try simp only at h1); omega)
        have E4 : Below T1 w3 w6 := Below.grown E3 hgrow' (by have := E3.size; have := D3.size; omega) (fun q hq => by have h1 := hin q hq; omega)
        have E5 : Below T1 w3 (w6.setCell ⟨T1 + 1, 0, none⟩ (.slice (some ⟨g', 0, none⟩) (r + 1) cap')) := E4.setCell (p := ⟨T1 + 1, 0, none⟩) (by simp only; omega) _
        refine hK.out _ _ (HS.out _ E4) (fun hHeld => ?_)
        clear hK K
        try simp only [act_all]
        clear hown' hgrow' hor' hin
        refine wpAnyH_take (i := 11) (oi := _) (v := ?_) rfl (by kernel_rfl) (by kernel_rfl) (by kernel_rfl) (fun _ _ _ h => h) (Or.inl ⟨by rfl, ?_⟩) (by assumption) ?_
        rotate_left
        · intro w hSw; obtain ⟨_, _⟩ := hSw; go_simp; (try with_reducible rfl)
        try change wpAnyH _ _ _ _ _ _ _ (Act.put _ (some 70) _) _
        try simp only [act_all]
        refine wpAnyH_ready (rs := [12]) (by kernel_rfl) (by simp) ?_
        refine AllReadyH.cons (o := _) rfl (fun K hK => ?_) AllReadyH.nil
        go_simp
        refine hK.out _ _ (HS.out _ E5) (fun hHeld => ?_)
        clear hK K
        try simp only [act_all]
        refine wpAnyH_done (by kernel_rfl) ?_ _
        clear hHeld
        go_wp2_with fail
        have HTV := Lib.hid HTW.out.symm
        have hTB3 : T1 + 2 ≤ (w6.setCell ⟨T1 + 1, 0, none⟩ (.slice (some ⟨g', 0, none⟩) (r + 1) cap')).heap.size := HTV.out.2.2.2.2.2.2.1
        have HE5 := Lib.hid E5
        clear HTW HTWs HB2' HS HCL hTB2 y0 y1 E0 E1 E2 E3 E4 E5 D0 D1 D2 D3 HT3 HWa HW5 HTc
        go_roundw
        case rel => exact ⟨(r : Int) + 1, r + 1, V1', _, G1', C1', _, _, by first | rfl | (rw [show wrap64 ((r : Int) + 1) = (r : Int) + 1 by simp only [wrap64]; omega]), by omega, by omega, HTV, HE5, hTB3⟩
        case measure => first | (simp [intOf]; done) | (simp [intOf]; omega)
    · have hzn : ¬ z < (N : Int) := by omega
      obtain rfl : N = r := by omega
      subst hz
      obtain ⟨gV1, cV1, rfl, hg1B, hg1s, hg1c, hg1m⟩ := own_fm HTW1.out.1.2.1 hN1
      obtain ⟨gV2, cV2, rfl, hg2B, hg2s, hg2c, hg2m⟩ := own_fm HTW1.out.2.1.2.1 hN1
      have HAP := Lib.hid HTW1.out.2.2.1
      have HO1 := Lib.hid HTW1.out.1.2
      have HO2 := Lib.hid HTW1.out.2.1.2
      have HIJ := Lib.hid HTW1.out.2.2.2.2.2.2.2.2
      have hT1w : T1 < wr.heap.size := by omega
      have t1c := HTW1.out.1.1.1
      have t2c := HTW1.out.2.1.1.1
      have vi := (HO1.out.1.cellAt i (by omega)).trans (rowsC_get G1 C1 N hiN)
      have vk := (HO1.out.1.cellAt k (by omega)).trans (rowsC_get G1 C1 N hkN)
      have fi := HO1.out.1.frozenAt i
      have fk := HO1.out.1.frozenAt k
      have hik1 : ¬ k = i := fun e => hik e.symm
      have hgT : ¬ gV1 = T1 := by omega
      have hgT2 : ¬ gV1 = T1 + 1 := by omega
      have hiI : (i : Int) < (N : Int) := by omega
      have hkI : (k : Int) < (N : Int) := by omega
      have HL1 : Hid (∀ j, j < N → ((wr.setCell ⟨gV1, i, none⟩ (.slice (some ⟨G1 k, 0, none⟩) N (C1 k))).setCell ⟨gV1, k, none⟩ (.slice (some ⟨G1 i, 0, none⟩) N (C1 i))).drew.cell? ⟨gV1, j, none⟩ = some (.slice (some ⟨G1 (sgJ i k j), 0, none⟩) N (C1 (sgJ i k j))) ∧ Intw ((wr.setCell ⟨gV1, i, none⟩ (.slice (some ⟨G1 k, 0, none⟩) N (C1 k))).setCell ⟨gV1, k, none⟩ (.slice (some ⟨G1 i, 0, none⟩) N (C1 i))).drew (G1 (sgJ i k j)) N (F (sgJ i k j))) := Lib.hid (fun j hj => by
        have vj := (HO1.out.1.cellAt j (by omega)).trans (rowsC_get G1 C1 N hj)
        have fj := HO1.out.1.frozenAt j
        refine ⟨?_, ?_⟩
        · unfold sgJ
          by_cases e1 : j = i
          · rw [if_pos e1]
            subst e1
            go_cell
          · rw [if_neg e1]
            by_cases e2 : j = k
            · rw [if_pos e2]
              subst e2
              go_cell
            · rw [if_neg e2]
              have n1 : ¬ i = j := fun e => e1 e.symm
              have n2 : ¬ k = j := fun e => e2 e.symm
              go_cell
        · obtain ⟨a, _, _, d⟩ := HO1.out.2 (sgJ i k j) (sg_lt hiN hkN hj)
          have hne2 : ¬ gV1 = G1 (sgJ i k j) := fun e => d (congrArg some e)
          exact (a.other hne2).other hne2)
      have hn2 : ∀ x, OS (.slice (some ⟨gV2, 0, none⟩) N cV2) G2 N x → some gV1 ≠ some x := fun x hx e => HAP.out gV1 (.inl rfl) (by rw [Option.some.inj e]; exact hx)
      have HL2 : Hid (RowsO ((wr.setCell ⟨gV1, i, none⟩ (.slice (some ⟨G1 k, 0, none⟩) N (C1 k))).setCell ⟨gV1, k, none⟩ (.slice (some ⟨G1 i, 0, none⟩) N (C1 i))).drew (T1 + 2) (.slice (some ⟨gV2, 0, none⟩) N cV2) N N G2 C2 F) := Lib.hid (by
        have h := (HO2.out.kept (grown_cell wr gV1 i (.slice (some ⟨G1 k, 0, none⟩) N (C1 k))) hn2).kept (grown_cell (wr.setCell ⟨gV1, i, none⟩ (.slice (some ⟨G1 k, 0, none⟩) N (C1 k))) gV1 k (.slice (some ⟨G1 i, 0, none⟩) N (C1 i))) hn2
        exact h)
      have HTC : Hid (((wr.setCell ⟨gV1, i, none⟩ (.slice (some ⟨G1 k, 0, none⟩) N (C1 k))).setCell ⟨gV1, k, none⟩ (.slice (some ⟨G1 i, 0, none⟩) N (C1 i))).drew.cell? ⟨T1, 0, none⟩ = some (.slice (some ⟨gV1, 0, none⟩) N cV1) ∧ ((wr.setCell ⟨gV1, i, none⟩ (.slice (some ⟨G1 k, 0, none⟩) N (C1 k))).setCell ⟨gV1, k, none⟩ (.slice (some ⟨G1 i, 0, none⟩) N (C1 i))).drew.cell? ⟨T1 + 1, 0, none⟩ = some (.slice (some ⟨gV2, 0, none⟩) N cV2)) := Lib.hid ⟨by go_cell, by go_cell⟩
      have hb13 : Below T1 w3 ((wr.setCell ⟨gV1, i, none⟩ (.slice (some ⟨G1 k, 0, none⟩) N (C1 k))).setCell ⟨gV1, k, none⟩ (.slice (some ⟨G1 i, 0, none⟩) N (C1 i))).drew := ((HB.out.setCell (p := ⟨gV1, i, none⟩) (by simp only; omega) _).setCell (p := ⟨gV1, k, none⟩) (by simp only; omega) _).drew
      have HB13 := Lib.hid hb13
      clear HTW1 hn2 hb13 t2c
      go_upto_region 13 with fail
      go_region
      generalize ((wr.setCell ⟨gV1, i, none⟩ (.slice (some ⟨G1 k, 0, none⟩) N (C1 k))).setCell ⟨gV1, k, none⟩ (.slice (some ⟨G1 i, 0, none⟩) N (C1 i))).drew = w13 at *
      clear vi vk fi fk t1c HO1 HO2 HB hgT hgT2
      have h13s : T1 < w13.heap.size := World.block_lt_of_cell? _ _ HTC.out.1
      obtain ⟨b0', o0', b1, o1, hao, hbl0, hrow, hbl1, hcl⟩ := HS3.out k hkN
      obtain ⟨rfl, rfl⟩ : b0 = b0' ∧ o0 = o0' := ⟨congrArg Addr.block (Option.some.inj hao), congrArg Addr.off (Option.some.inj hao)⟩
      have hbT : b0 < T1 := by have := HT1.out; omega
      have hwT : w.heap.size < T1 := by have := HT1.out; omega
      have HCP : Hid ((Builtin.copy_ #[24, 24] 3 #[.slice (some ⟨G2 i, 0, none⟩) N (C2 i), .slice (some ⟨b1, o1, none⟩) N (c k)]).run Try.prog w13.drew = .ok (goInt N) (w13.drew.setCells (G2 i) 0 (cellsI (F k) N))) := Lib.hid (copy_row (w := w13.drew) (HL2.out.2 i hiN).1 (fun j hj => (HB13.out.cell (p := ⟨b1, o1 + j, none⟩) (by have := HT1.out; simp only; omega)).trans (hcl j hj)))
      have x1 := HTC.out.2
      have x2 := (HL2.out.1.cellAt i (by omega)).trans (rowsC_get G2 C2 N hiN)
      have x3 := (HB13.out.cell (p := ⟨w.heap.size, 0, none⟩) hwT).trans HK3.out
      have x4 := (HB13.out.cell (p := ⟨b0, o0 + k, none⟩) hbT).trans hrow
      obtain ⟨hw2i, hB2i, hs2i, hd2i⟩ := HL2.out.2 i hiN
      have hgr : w13.grownBy (w13.drew.setCells (G2 i) 0 (cellsI (F k) N)) (some (G2 i)) := by
        have h := grown_cells w13.drew (G2 i) (cellsI (F k) N)
        exact ⟨h.os, h.tape, h.output, h.size, h.block⟩
      have hni : ∀ b' o' v, w13.cell? ⟨b', o', none⟩ = some v → ¬ b' = G2 i → (w13.drew.setCells (G2 i) 0 (cellsI (F k) N)).cell? ⟨b', o', none⟩ = some v := fun b' o' v hv hne => farc hgr hv (fun e => hne (Option.some.inj e))
      have y1 := hni _ _ _ x1 (by omega)
      have y2 := hni _ _ _ x2 (fun e => hd2i (congrArg some e))
      have y3 := hni _ _ _ x3 (by omega)
      have y4 := hni _ _ _ x4 (by omega)
      have HM2 : Hid (Rowsw (w13.drew.setCells (G2 i) 0 (cellsI (F k) N)) (some ⟨gV2, 0, none⟩) N (fun j => some ⟨G2 j, 0, none⟩) (fun _ => N) C2 (twR i k F)) := Lib.hid ⟨fun _ => ⟨gV2, 0, rfl, fun j hj => by
        rw [Nat.zero_add]
        exact hni _ _ _ ((HL2.out.1.cellAt j (by omega)).trans (rowsC_get G2 C2 N hj)) (fun e => hd2i (congrArg some e))⟩, fun j hj => ⟨by omega, by
        unfold twR
        by_cases e : j = i
        · rw [if_pos e, e]
          exact (Intw.copied (w := w13.drew) (g := G2 i) (n := N) (F := F k) hw2i).ints
        · rw [if_neg e]
          have hne : ¬ G2 j = G2 i := fun h => e (HIJ.out j i hj hiN h)
          exact Intw.ints (fun q hq => ⟨hni _ _ _ ((HL2.out.2 j hj).1 q hq).1 hne, farf hgr ((HL2.out.2 j hj).1 q hq).1 ((HL2.out.2 j hj).1 q hq).2 (fun e => hne (Option.some.inj e))⟩)⟩⟩
      have HM1 : Hid (Rowsw (w13.drew.setCells (G2 i) 0 (cellsI (F k) N)) (some ⟨gV1, 0, none⟩) N (fun j => some ⟨G1 (sgJ i k j), 0, none⟩) (fun _ => N) (fun j => C1 (sgJ i k j)) (swR i k F)) := Lib.hid ⟨fun _ => ⟨gV1, 0, rfl, fun j hj => by
        rw [Nat.zero_add]
        exact hni _ _ _ (HL1.out j hj).1 (fun e => HAP.out gV1 (.inl rfl) (.inr ⟨i, hiN, e.symm⟩))⟩, fun j hj => ⟨by omega, by
        rw [swR_sg]
        have hne : ¬ G1 (sgJ i k j) = G2 i := fun h => HAP.out (G1 (sgJ i k j)) (.inr ⟨_, sg_lt hiN hkN hj, rfl⟩) (.inr ⟨i, hiN, h.symm⟩)
        exact Intw.ints (fun q hq => ⟨hni _ _ _ ((HL1.out j hj).2 q hq).1 hne, farf hgr ((HL1.out j hj).2 q hq).1 ((HL1.out j hj).2 q hq).2 (fun e => hne (Option.some.inj e))⟩)⟩⟩
      have HB14 : Hid (Below T1 w3 (w13.drew.setCells (G2 i) 0 (cellsI (F k) N))) := Lib.hid (Below.grown HB13.out hgr (by omega) (fun q hq => by have := Option.some.inj hq; omega))
      have HTC14 : Hid ((w13.drew.setCells (G2 i) 0 (cellsI (F k) N)).cell? ⟨T1, 0, none⟩ = some (.slice (some ⟨gV1, 0, none⟩) N cV1) ∧ (w13.drew.setCells (G2 i) 0 (cellsI (F k) N)).cell? ⟨T1 + 1, 0, none⟩ = some (.slice (some ⟨gV2, 0, none⟩) N cV2)) := Lib.hid ⟨hni _ _ _ HTC.out.1 (by omega), y1⟩
      have HSX := Lib.hid (And.intro y1 (And.intro y2 (And.intro y3 y4)))
      have HSX0 : Hid (w13.drew.cell? ⟨T1 + 1, 0, none⟩ = some (.slice (some ⟨gV2, 0, none⟩) N cV2) ∧ w13.drew.cell? ⟨gV2, i, none⟩ = some (.slice (some ⟨G2 i, 0, none⟩) N (C2 i)) ∧ w13.drew.cell? ⟨w.heap.size, 0, none⟩ = some (.slice (some ⟨b0, o0, none⟩) N cap) ∧ w13.drew.cell? ⟨b0, o0 + k, none⟩ = some (.slice (some ⟨b1, o1, none⟩) N (c k))) := Lib.hid ⟨x1, x2, x3, x4⟩
      clear x1 x2 x3 x4 y1 y2 y3 y4 hni hgr hw2i hB2i hs2i hd2i hao hbl0 hrow hbl1 hcl HTC HL1 HL2
      go_upto_region 14 with fail
      refine wp_region_held_drew (S := fun w' => w'.cell? ⟨T1 + 1, 0, none⟩ = some (.slice (some ⟨gV2, 0, none⟩) N cV2) ∧ w'.cell? ⟨gV2, i, none⟩ = some (.slice (some ⟨G2 i, 0, none⟩) N (C2 i)) ∧ w'.cell? ⟨w.heap.size, 0, none⟩ = some (.slice (some ⟨b0, o0, none⟩) N cap) ∧ w'.cell? ⟨b0, o0 + k, none⟩ = some (.slice (some ⟨b1, o1, none⟩) N (c k))) (by kernel_rfl) HSX0.out (fun hHeld => ?_)
      refine wpAnyH_take (i := 0) (oi := _) (v := ?_) rfl (by kernel_rfl) (by kernel_rfl) (by kernel_rfl) (fun _ _ _ h => h) (Or.inl ⟨by rfl, ?_⟩) (by assumption) ?_
      rotate_left
      · intro w hSw; obtain ⟨_, _, _, _⟩ := hSw; go_simp; (try with_reducible rfl)
      try change wpAnyH _ _ _ _ _ _ _ (Act.put _ (some 89) _) _
      try simp only [act_all]
      refine wpAnyH_take (i := 1) (oi := _) (v := ?_) rfl (by kernel_rfl) (by kernel_rfl) (by kernel_rfl) (fun _ _ _ h => h) (Or.inl ⟨by rfl, ?_⟩) (by assumption) ?_
      rotate_left
      · intro w hSw; obtain ⟨_, _, _, _⟩ := hSw; go_simp; (try with_reducible rfl)
      try change wpAnyH _ _ _ _ _ _ _ (Act.put _ (some 90) _) _
      try simp only [act_all]
      refine wpAnyH_take (i := 2) (oi := _) (v := ?_) rfl (by kernel_rfl) (by kernel_rfl) (by kernel_rfl) (fun _ _ _ h => h) (Or.inl ⟨by rfl, ?_⟩) (by assumption) ?_
      rotate_left
      · intro w hSw; obtain ⟨_, _, _, _⟩ := hSw; go_simp; (try with_reducible rfl)
      try change wpAnyH _ _ _ _ _ _ _ (Act.put _ (some 91) _) _
      try simp only [act_all]
      refine wpAnyH_take (i := 3) (oi := _) (v := ?_) rfl (by kernel_rfl) (by kernel_rfl) (by kernel_rfl) (fun _ _ _ h => h) (Or.inl ⟨by rfl, ?_⟩) (by assumption) ?_
      rotate_left
      · intro w hSw; obtain ⟨_, _, _, _⟩ := hSw; go_simp; (try with_reducible rfl)
      try change wpAnyH _ _ _ _ _ _ _ (Act.put _ (some 92) _) _
      try simp only [act_all]
      refine wpAnyH_take (i := 4) (oi := _) (v := ?_) rfl (by kernel_rfl) (by kernel_rfl) (by kernel_rfl) (fun _ _ _ h => h) (Or.inl ⟨by rfl, ?_⟩) (by assumption) ?_
      rotate_left
      · intro w hSw; obtain ⟨_, _, _, _⟩ := hSw; go_simp; (try with_reducible rfl)
      try change wpAnyH _ _ _ _ _ _ _ (Act.put _ (some 93) _) _
      try simp only [act_all]
      refine wpAnyH_take (i := 5) (oi := _) (v := ?_) rfl (by kernel_rfl) (by kernel_rfl) (by kernel_rfl) (fun _ _ _ h => h) (Or.inl ⟨by rfl, ?_⟩) (by assumption) ?_
      rotate_left
      · intro w hSw; obtain ⟨_, _, _, _⟩ := hSw; go_simp; (try with_reducible rfl)
      try change wpAnyH _ _ _ _ _ _ _ (Act.put _ (some 94) _) _
      try simp only [act_all]
      refine wpAnyH_take (i := 6) (oi := _) (v := ?_) rfl (by kernel_rfl) (by kernel_rfl) (by kernel_rfl) (fun _ _ _ h => h) (Or.inl ⟨by rfl, ?_⟩) (by assumption) ?_
      rotate_left
      · intro w hSw; obtain ⟨_, _, _, _⟩ := hSw; go_simp; (try with_reducible rfl)
      try change wpAnyH _ _ _ _ _ _ _ (Act.put _ (some 95) _) _
      try simp only [act_all]
      refine wpAnyH_take (i := 7) (oi := _) (v := ?_) rfl (by kernel_rfl) (by kernel_rfl) (by kernel_rfl) (fun _ _ _ h => h) (Or.inl ⟨by rfl, ?_⟩) (by assumption) ?_
      rotate_left
      · intro w hSw; obtain ⟨_, _, _, _⟩ := hSw; go_simp; (try with_reducible rfl)
      try change wpAnyH _ _ _ _ _ _ _ (Act.put _ (some 96) _) _
      try simp only [act_all]
      refine wpAnyH_take (i := 8) (oi := _) (v := ?_) rfl (by kernel_rfl) (by kernel_rfl) (by kernel_rfl) (fun _ _ _ h => h) (Or.inl ⟨by rfl, ?_⟩) (by assumption) ?_
      rotate_left
      · intro w hSw; obtain ⟨_, _, _, _⟩ := hSw; go_simp; (try with_reducible rfl)
      try change wpAnyH _ _ _ _ _ _ _ (Act.put _ (some 97) _) _
      try simp only [act_all]
      refine wpAnyH_take (i := 9) (oi := _) (v := ?_) rfl (by kernel_rfl) (by kernel_rfl) (by kernel_rfl) (fun _ _ _ h => h) (Or.inl ⟨by rfl, ?_⟩) (by assumption) ?_
      rotate_left
      · intro w hSw; obtain ⟨_, _, _, _⟩ := hSw; go_simp; (try with_reducible rfl)
      try change wpAnyH _ _ _ _ _ _ _ (Act.put _ (some 98) _) _
      try simp only [act_all]
      refine wpAnyH_ready (rs := [10]) (by kernel_rfl) (by simp) ?_
      refine AllReadyH.cons (o := _) rfl (fun K hK => ?_) AllReadyH.nil
      have hcp := HCP.out
      go_simp
      refine hK.out _ _ HSX.out (fun hHeld => ?_)
      clear hK K
      try simp only [act_all]
      clear hcp
      refine wpAnyH_done (by kernel_rfl) ?_ _
      generalize (w13.drew.setCells (G2 i) 0 (cellsI (F k) N)) = w14 at *
      clear hHeld HSX HSX0 HCP
      have HBF := Lib.hid (HB0.out.trans ((HB3.out.trans (HB14.out.mono (by have := HT1.out; have := HB3.out.size; omega))).mono HB0.out.size))
      have z0 := (HB14.out.cell (p := ⟨w.heap.size, 0, none⟩) hwT).trans HK3.out
      have HDT := Lib.hid (det_rows (F := F) hN5 hiN hkN hik)
      have HX1 : Hid (okG N (fun _ => N) (swR i k F) = true) := Lib.hid (okG_rows HT.out (fun j hj => ⟨sgJ i k j, sg_lt hiN hkN hj, swR_sg j⟩))
      have HX2 : Hid (okG N (fun _ => N) (twR i k F) = true) := Lib.hid (okG_rows HT.out (fun j hj => by
        unfold twR
        by_cases e : j = i
        · exact ⟨k, hkN, if_pos e⟩
        · exact ⟨j, hj, if_neg e⟩))
      have h14s : T1 < w14.heap.size := World.block_lt_of_cell? _ _ HTC14.out.1
      go_wp2_with fail
      refine (hDet_ok N cap (some ⟨b0, o0, none⟩) A l c F _ hN (HR3.out.keep (HB14.out.mono (by have := HT1.out; omega))) HT.out).mono ?_
      obtain ⟨x, hx⟩ : ∃ x, detN N (gnL N N F) = x := ⟨_, rfl⟩
      obtain ⟨y, hy⟩ : ∃ y, detN N (gnL N N (swR i k F)) = y := ⟨_, rfl⟩
      obtain ⟨v, hv⟩ : ∃ v, detN N (gnL N N (twR i k F)) = v := ⟨_, rfl⟩
      have HV := Lib.hid (And.intro hx (And.intro hy hv))
      rw [hx, hy, hv] at HDT
      obtain ⟨hxy, rfl⟩ := HDT.out
      have HXY := Lib.hid hxy
      rw [hx]
      clear hx hy hv hxy HDT
      rintro e w15 ⟨rfl, hb⟩
      have HM15 := Lib.hid (HM1.out.keep hb)
      have HN15 := Lib.hid (HM2.out.keep hb)
      have z1 := (hb.cell (p := ⟨T1, 0, none⟩) h14s).trans HTC14.out.1
      have z2 := (hb.cell (p := ⟨T1 + 1, 0, none⟩) (World.block_lt_of_cell? _ _ HTC14.out.2)).trans HTC14.out.2
      have HB15 := Lib.hid (HBF.out.trans (hb.mono HBF.out.size))
      clear hb z0 HM1 HM2 HTC14 HBF HB14 h14s
      go_wp2_with fail
      refine (hDet_ok N cV1 (some ⟨gV1, 0, none⟩) _ (fun _ => N) _ (swR i k F) _ hN HM15.out HX1.out).mono ?_
      rw [HV.out.2.1]
      rintro e w16 ⟨rfl, hb⟩
      have HN16 := Lib.hid (HN15.out.keep hb)
      have z3 := (hb.cell (p := ⟨T1 + 1, 0, none⟩) (World.block_lt_of_cell? _ _ z2)).trans z2
      have HB16 := Lib.hid (HB15.out.trans (hb.mono HB15.out.size))
      clear hb z1 z2 HM15 HN15 HB15
      go_wp2_with fail
      refine (hDet_ok N cV2 (some ⟨gV2, 0, none⟩) _ (fun _ => N) _ (twR i k F) _ hN HN16.out HX2.out).mono ?_
      rw [HV.out.2.2]
      rintro e w17 ⟨rfl, hb⟩
      have hbl := HB16.out.trans (hb.mono HB16.out.size)
      have hxx : (x == x) = true := by simp
      have hxy := HXY.out
      clear hb z3 HN16 HB16
      go_wp2_with fail
      refine (sane_any _).mono ?_
      rintro e wz ⟨rfl, hb⟩
      have DZ := hbl.trans (hb.mono hbl.size)
      clear hb hbl
      go_wp2_with fail
      go_returns
      exact ⟨rfl, DZ⟩
end Go.Proofs.Ytdhlikedjephmaa
