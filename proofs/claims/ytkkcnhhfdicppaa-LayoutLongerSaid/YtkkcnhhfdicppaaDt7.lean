import Derived.Test.YtkkcnhhfdicppaaIu7
import Derived.Test.YtkkcnhhfdicppaaRo7
import Derived.Test.YtkkcnhhfdicppaaPh7
namespace Lay
theorem xyC_app (a b : List (Int × Int)) : xyC (a ++ b) = xyC a ++ xyC b := by unfold xyC; rw [List.flatMap_append]
theorem xyC_take : ∀ (k : Nat) (l : List (Int × Int)), xyC (l.take k) = (xyC l).take (k * 2)
  | 0, _ => by simp [xyC]
  | k + 1, [] => by simp [xyC]
  | k + 1, c :: l => by
    have ih := xyC_take k l
    have e : xyC (c :: l) = .int .i64 c.1 :: .int .i64 c.2 :: xyC l := rfl
    have e2 : xyC (c :: l.take k) = .int .i64 c.1 :: .int .i64 c.2 :: xyC (l.take k) := rfl
    rw [List.take_succ_cons, e, e2, ih, show (k + 1) * 2 = k * 2 + 1 + 1 by omega, List.take_succ_cons, List.take_succ_cons]
theorem xyC_drop : ∀ (k : Nat) (l : List (Int × Int)), xyC (l.drop k) = (xyC l).drop (k * 2)
  | 0, _ => by simp
  | k + 1, [] => by simp [xyC]
  | k + 1, c :: l => by
    have ih := xyC_drop k l
    have e : xyC (c :: l) = .int .i64 c.1 :: .int .i64 c.2 :: xyC l := rfl
    rw [List.drop_succ_cons, e, ih, show (k + 1) * 2 = k * 2 + 1 + 1 by omega, List.drop_succ_cons, List.drop_succ_cons]
/-- Two more cells in a set, one after the other. -/
def U2 (K : Int → Int → Bool) (a b c e : Int) : Nat → Int → Int → Bool
  | 0 => K
  | 1 => fun p q => K p q || decide (p = a ∧ q = b)
  | _ => fun p q => (K p q || decide (p = a ∧ q = b)) || decide (p = c ∧ q = e)
theorem U2_next {K : Int → Int → Bool} {a b c e x y : Int} {q : Nat} (h : (q = 0 ∧ x = a ∧ y = b) ∨ (q = 1 ∧ x = c ∧ y = e)) : U2 K a b c e (q + 1) = fun p r => U2 K a b c e q p r || decide (p = x ∧ r = y) := by
  rcases h with ⟨rfl, rfl, rfl⟩ | ⟨rfl, rfl, rfl⟩ <;> rfl
/-- A path that has been made longer, its ends kept. -/
structure Lng (W H : Int) (K : Int → Int → Bool) (X Y : Nat → Int) (n : Nat) (X' Y' : Nat → Int) (n' : Nat) : Prop where
  pth : Pth W H K X' Y' n'
  x0 : X' 0 = X 0
  y0 : Y' 0 = Y 0
  x1 : X' (n' - 1) = X (n - 1)
  y1 : Y' (n' - 1) = Y (n - 1)
theorem Lng.ins {W H : Int} {K : Int → Int → Bool} {X Y X' Y' : Nat → Int} {n n' i : Nat} {s o : Int} (h : Lng W H K X Y n X' Y' n') (hr : Room W H K (blkN X' Y' n') X' Y' (n' - 1) i s o) :
    Lng W H K X Y n (ins2 X' i (nx (X' i) o) (nx (X' (i + 1)) o)) (ins2 Y' i (ny (Y' i) o) (ny (Y' (i + 1)) o)) (n' + 2) := by
  obtain ⟨h1, h2, h3, h4, h5, h6, h7⟩ := hr
  refine ⟨h.pth.ins (by omega) h2 h3 h4 h5 h6 h7, ?_, ?_, ?_, ?_⟩
  · rw [ins2_0 (by omega)]; exact h.x0
  · rw [ins2_0 (by omega)]; exact h.y0
  · rw [show n' + 2 - 1 = (n' - 1) + 2 by omega, ins2_3 (by omega)]; exact h.x1
  · rw [show n' + 2 - 1 = (n' - 1) + 2 by omega, ins2_3 (by omega)]; exact h.y1
end Lay
namespace Go.Proofs.Ytkkcnhhfdicppaa
open Go.RowKit Lay
theorem prL_xys {w : World} {b N : Nat} {v : Value} {X Y : Nat → Int} (h : w.ownsRow b 26 2 v N (xyC (prL X Y N))) : ∃ ao cap, v = .slice ao N cap ∧ XYs w ao N X Y := by
  obtain ⟨ao, cap, hv, hx⟩ := own_xys h (prL_len _ _ _)
  refine ⟨ao, cap, hv, fun h0 => ?_⟩
  obtain ⟨b, o, e, hc⟩ := hx h0
  refine ⟨b, o, e, fun i hi => ?_⟩
  have hg : (prL X Y N).getD i (0, 0) = (X i, Y i) := by
    unfold prL
    rw [List.getD_eq_getElem?_getD, List.getElem?_map, List.getElem?_range hi]
    rfl
  have := hc i hi
  simp only [hg] at this
  exact this
set_option maxRecDepth 100000 in
set_option maxHeartbeats 8000000 in
theorem pDetour_no (W H M B : Int) (nb cb : Nat) (ao : Option Addr) (XB YB : Nat → Int) (n cp : Nat) (ap : Option Addr) (X Y : Nat → Int) (more : Int) (w : World) (E : Int) (hE : rdE (vaG W H M B nb XB YB) 1 (chE W H (blkN XB YB nb) X Y n) = E) (hne : E ≠ 0)
    (hn : nb ≤ 9223372036854775807) (hc : XYs w ao nb XB YB) (hnp : n ≤ 1000000) (hp : XYs w ap n X Y) (hr : R2 X Y n) :
    Calls Try.prog 20 #[.agg #[.int .i64 W, .int .i64 H, .int .i64 M, .int .i64 B, .slice ao nb cb], .slice ap n cp, .int .i64 more] w fun e w' => e = .returned (.tuple #[.slice none 0 0, .int .i64 E]) ∧ Below w.heap.size w w' := by
  have HC := Lib.hid hc
  have HP := Lib.hid hp
  have HR := Lib.hid hr
  clear hc hp hr
  have HE := Lib.hid hE
  clear hE
  go_enter Try.func20, Try.ntmps20
  go_wp2_with fail
  refine (readPath_no W H M B nb cb ao XB YB n cp ap X Y _ E HE.out hne hn (HC.out.keep (by go_grown)) hnp (HP.out.keep (by go_grown)) HR.out).mono ?_
  rintro e w1 ⟨rfl, hb⟩
  have hbl : Below w.heap.size w w1 := Below.trans (by go_grown) (hb.mono (by simp))
  have heb : (E != 0) = true := bne_iff_ne.2 hne
  clear hb
  go_wp2_with fail
  refine bodyPost_ret (v := .tuple #[.slice none 0 0, .int .i64 E]) (by simp [results, Try.results20, go_sem]) rfl ⟨rfl, hbl.alloc hbl.size _⟩
set_option maxRecDepth 100000 in
set_option maxHeartbeats 8000000 in
theorem pDetour_bad (W H M B : Int) (nb cb : Nat) (ao : Option Addr) (XB YB : Nat → Int) (n cp : Nat) (ap : Option Addr) (X Y : Nat → Int) (more : Int) (w : World) (hv : vaG W H M B nb XB YB = true) (hE : chE W H (blkN XB YB nb) X Y n = 0) (hbad : more < 0 ∨ 200 < more ∨ more % 2 ≠ 0) (hmr : -9223372036854775808 ≤ more ∧ more ≤ 9223372036854775807)
    (hn : nb ≤ 9223372036854775807) (hc : XYs w ao nb XB YB) (hnp : n ≤ 1000000) (hp : XYs w ap n X Y) (hr : R2 X Y n) :
    Calls Try.prog 20 #[.agg #[.int .i64 W, .int .i64 H, .int .i64 M, .int .i64 B, .slice ao nb cb], .slice ap n cp, .int .i64 more] w fun e w' => e = .returned (.tuple #[.slice none 0 0, .int .i64 2]) ∧ Below w.heap.size w w' := by
  have HC := Lib.hid hc
  have HP := Lib.hid hp
  have HR := Lib.hid hr
  clear hc hp hr
  by_cases k1 : more < 0
  case pos =>
    have HE := Lib.hid hE
    have HV := Lib.hid hv
    clear hE hv
    go_enter Try.func20, Try.ntmps20
    go_wp2_with fail
    refine (readPath_ok W H M B nb cb ao XB YB n cp ap X Y _ HV.out HE.out hn (HC.out.keep (by go_grown)) hnp (HP.out.keep (by go_grown)) HR.out).mono ?_
    rintro e w1 ⟨m, rfl, hm1, hM, hb⟩
    have hb1 : Below w.heap.size w w1 := Below.trans (by go_grown) (hb.mono (by simp))
    clear hb hM hm1
    go_wp2_with fail
    refine bodyPost_ret (v := .tuple #[.slice none 0 0, .int .i64 2]) (by simp [results, Try.results20, go_sem]) rfl ⟨rfl, hb1.alloc hb1.size _⟩
  by_cases k2 : 200 < more
  case pos =>
    have HE := Lib.hid hE
    have HV := Lib.hid hv
    clear hE hv
    go_enter Try.func20, Try.ntmps20
    go_wp2_with fail
    refine (readPath_ok W H M B nb cb ao XB YB n cp ap X Y _ HV.out HE.out hn (HC.out.keep (by go_grown)) hnp (HP.out.keep (by go_grown)) HR.out).mono ?_
    rintro e w1 ⟨m, rfl, hm1, hM, hb⟩
    have hb1 : Below w.heap.size w w1 := Below.trans (by go_grown) (hb.mono (by simp))
    clear hb hM hm1
    go_wp2_with fail
    refine bodyPost_ret (v := .tuple #[.slice none 0 0, .int .i64 2]) (by simp [results, Try.results20, go_sem]) rfl ⟨rfl, hb1.alloc hb1.size _⟩
  have k3 : more % 2 ≠ 0 := by omega
  have k4 : more.tmod 2 = more % 2 := Int.tmod_eq_emod_of_nonneg (by omega)
  have k5 : (more % 2 != 0) = true := bne_iff_ne.2 k3
  have HE := Lib.hid hE
  have HV := Lib.hid hv
  clear hE hv
  go_enter Try.func20, Try.ntmps20
  go_wp2_with fail
  refine (readPath_ok W H M B nb cb ao XB YB n cp ap X Y _ HV.out HE.out hn (HC.out.keep (by go_grown)) hnp (HP.out.keep (by go_grown)) HR.out).mono ?_
  rintro e w1 ⟨m, rfl, hm1, hM, hb⟩
  have hb1 : Below w.heap.size w w1 := Below.trans (by go_grown) (hb.mono (by simp))
  clear hb hM hm1 hbad
  go_wp2_with fail
  refine bodyPost_ret (v := .tuple #[.slice none 0 0, .int .i64 2]) (by simp [results, Try.results20, go_sem]) rfl ⟨rfl, hb1.alloc hb1.size _⟩
set_option maxRecDepth 100000 in
set_option maxHeartbeats 8000000 in
theorem pDetour_ok (W H M B : Int) (nb cb : Nat) (ao : Option Addr) (XB YB : Nat → Int) (n cp : Nat) (ap : Option Addr) (X Y : Nat → Int) (more : Int) (w : World) (hv : vaG W H M B nb XB YB = true) (hE : chE W H (blkN XB YB nb) X Y n = 0) (t : Nat) (ht : more = ((2 * t : Nat) : Int)) (ht9 : t ≤ 100) (hn3 : n ≤ 300)
    (hn : nb ≤ 9223372036854775807) (hc : XYs w ao nb XB YB) (hnp : n ≤ 1000000) (hp : XYs w ap n X Y) (hr : R2 X Y n) :
    Calls Try.prog 20 #[.agg #[.int .i64 W, .int .i64 H, .int .i64 M, .int .i64 B, .slice ao nb cb], .slice ap n cp, .int .i64 more] w fun e w' => Below w.heap.size w w' ∧ ((e = .returned (.tuple #[.slice none 0 0, .int .i64 5])) ∨ ∃ (al : Option Addr) (cl : Nat) (X' Y' : Nat → Int), e = .returned (.tuple #[.slice al (n + 2 * t) cl, .int .i64 0]) ∧ XYs w' al (n + 2 * t) X' Y' ∧ Lng W H (blkN XB YB nb) X Y n X' Y' (n + 2 * t)) := by
  have HC := Lib.hid hc
  have HP := Lib.hid hp
  have HR := Lib.hid hr
  clear hc hp hr
  have hch := chE_ok.1 hE
  obtain ⟨⟨hn1, _⟩, hpa2, hpa3⟩ := paB_iff.1 hch.1
  obtain ⟨hnum, _⟩ := vaG_num hv
  have HL0 : Hid (Lng W H (blkN XB YB nb) X Y n X Y (n + 2 * 0)) := Lib.hid ⟨⟨hpa2, hpa3, hch.2⟩, rfl, rfl, rfl, rfl⟩
  have k4 : more.tmod 2 = 0 := by rw [Int.tmod_eq_emod_of_nonneg (by omega)]; omega
  have k1 : ¬ more < 0 := by omega
  have k2 : ¬ 200 < more := by omega
  have HT := Lib.hid ht
  clear hch hpa2 hpa3
  have HE := Lib.hid hE
  have HV := Lib.hid hv
  clear hE hv
  go_enter Try.func20, Try.ntmps20
  go_wp2_with fail
  refine (readPath_ok W H M B nb cb ao XB YB n cp ap X Y _ HV.out HE.out hn (HC.out.keep (by go_grown)) hnp (HP.out.keep (by go_grown)) HR.out).mono ?_
  rintro e w1 ⟨m, rfl, hm1, hM, hb⟩
  have hb1 : Below w.heap.size w w1 := Below.trans (by go_grown) (hb.mono (by simp))
  obtain ⟨b8, hb8⟩ : ∃ z, z = w1.heap.size := ⟨_, rfl⟩
  obtain ⟨w2, hw2⟩ : ∃ z, z = w1.alloc (.cells #[.int .i64 W, .int .i64 H, .int .i64 M, .int .i64 B, .slice ao nb cb, .map (some m)] 68) := ⟨_, rfl⟩
  have hc12 : Below w1.heap.size w1 w2 := by rw [hw2]; exact bal (Below.refl _ _) _
  have KB2 : Hid (w2.heap[b8]? = some (.cells #[.int .i64 W, .int .i64 H, .int .i64 M, .int .i64 B, .slice ao nb cb, .map (some m)] 68 (0, 0))) := Lib.hid (by rw [hw2, hb8]; exact heap_alloc_new w1 _)
  have KM2 : Hid (BMap w2 m nb (blkN XB YB nb)) := Lib.hid (hM.keep (hc12.block _ hM.lt))
  have HB2 : Hid (Below w.heap.size w w2) := Lib.hid (hb1.trans (hc12.mono hb1.size))
  have hz2 : b8 < w2.heap.size := by rw [hw2, hb8]; simp
  have hm2 : m < b8 := by rw [hb8]; exact hM.lt
  have h8 : w.heap.size ≤ b8 := by rw [hb8]; exact hb1.size
  have HW2 := Lib.hid hw2
  have HB8 := Lib.hid hb8
  clear hb hM hm1 hb1 hw2 hb8 hc12
  go_upto_region 2 with fail
  rw [← HW2.out]
  try rw [← HB8.out]
  clear HW2 HB8
  go_wp2_with fail
  refine (clone_any n cp ap X Y _ hn1 (by omega) (HP.out.keep HB2.out)).mono ?_
  rintro e w3 ⟨v, rfl, hown, hb⟩
  obtain ⟨BB, hBB⟩ : ∃ z, z = w2.heap.size := ⟨_, rfl⟩
  rw [← hBB] at hown
  have HO3 := Lib.hid hown
  have KB3 : Hid (w3.heap[b8]? = some (.cells #[.int .i64 W, .int .i64 H, .int .i64 M, .int .i64 B, .slice ao nb cb, .map (some m)] 68 (0, 0))) := Lib.hid ((hb.block _ hz2).trans KB2.out)
  have KM3 : Hid (BMap w3 m nb (blkN XB YB nb)) := Lib.hid (KM2.out.keep (hb.block _ KM2.out.lt))
  have HB3 : Hid (Below w.heap.size w w3) := Lib.hid (HB2.out.trans (hb.mono HB2.out.size))
  have h8B : b8 < BB := by omega
  have hB3 : BB ≤ w3.heap.size := by have := hb.size; omega
  have hvl := hown.lt
  have hap3 := HP.out.keep HB3.out
  clear hb hown hBB KB2 KM2 HB2 hz2
  go_wp2_with fail
  refine (setOf_any n cp ap X Y _ (by omega) hap3 HR.out).mono ?_
  rintro e w4 ⟨mu, rfl, hmu, hU, hb⟩
  have HO4 : Hid (w4.ownsRow BB 26 2 v (n + 2 * 0) (xyC (prL X Y (n + 2 * 0)))) := Lib.hid (own_below' HO3.out hb)
  have hvmu : v.ownBlock ≠ some mu := fun e => by have := (hvl _ e).2; omega
  have HU4 : Hid (BMap w4 mu n (blkN X Y (n + 2 * 0))) := Lib.hid hU.toB
  have KB4 : Hid (w4.heap[b8]? = some (.cells #[.int .i64 W, .int .i64 H, .int .i64 M, .int .i64 B, .slice ao nb cb, .map (some m)] 68 (0, 0))) := Lib.hid ((hb.block _ (by omega)).trans KB3.out)
  have KM4 : Hid (BMap w4 m nb (blkN XB YB nb)) := Lib.hid (KM3.out.keep (hb.block _ KM3.out.lt))
  have HB4 : Hid (Below w.heap.size w w4) := Lib.hid (HB3.out.trans (hb.mono HB3.out.size))
  have hz4 : mu < w4.heap.size ∧ BB ≤ w4.heap.size := ⟨hU.lt, by have := hb.size; omega⟩
  have hBmu : BB ≤ mu := by omega
  clear hb hU HO3 KB3 KM3 HB3 hvl hap3 hmu hB3
  have HMT : Hid (more = ((2 * (t - 0) : Nat) : Int)) := Lib.hid (by rw [HT.out]; rfl)
  go_wp2_with fail
  go_loopg [10, 12] t (fun gg v10 v12 wr => ∃ (j : Nat) (X' Y' : Nat → Int) (N2 : Nat), v12 = .int .i64 ((2 * (t - j) : Nat) : Int) ∧ j ≤ t ∧ Hid (t - j ≤ gg) ∧ N2 ≤ n + 2 * j ∧ v10.ownBlock ≠ some mu ∧ Hid (wr.ownsRow BB 26 2 v10 (n + 2 * j) (xyC (prL X' Y' (n + 2 * j)))) ∧ Hid (BMap wr mu N2 (blkN X' Y' (n + 2 * j))) ∧ Hid (Lng W H (blkN XB YB nb) X Y n X' Y' (n + 2 * j)) ∧ Hid (wr.heap[b8]? = some (.cells #[.int .i64 W, .int .i64 H, .int .i64 M, .int .i64 B, .slice ao nb cb, .map (some m)] 68 (0, 0))) ∧ Hid (BMap wr m nb (blkN XB YB nb)) ∧ Hid (Below w.heap.size w wr) ∧ mu < wr.heap.size ∧ BB ≤ wr.heap.size)
  case atStart => exact ⟨0, X, Y, n, by first | rw [HMT.out] | (rw [show ((2 * (t - 0) : Nat) : Int) = 2 * (t : Int) by omega]), Nat.zero_le _, Lib.hid (by omega), by omega, hvmu, HO4, HU4, HL0, KB4, KM4, HB4, hz4⟩
  case round =>
    obtain ⟨j, X', Y', N2, rfl, hj, HG, hN2, hvm, HO, HU, HLG, KB, KM, HB, hz⟩ := hrel
    clear HO4 HU4 HL0 KB4 KM4 HB4 hz4 hvmu HMT
    by_cases hlt : j < t
    case neg =>
      obtain rfl : j = t := by omega
      have e0 : ((2 * (j - j) : Nat) : Int) = 0 := by omega
      obtain ⟨al, cl, hv10, hxs⟩ := prL_xys HO.out
      have HX := Lib.hid hxs
      subst hv10
      clear hxs
      rw [e0]
      go_wp2_with fail
      refine bodyPost_ret (v := .tuple #[.slice al (n + 2 * j) cl, .int .i64 0]) (by simp [results, Try.results20, go_sem]) rfl ⟨HB.out, Or.inr ⟨al, cl, X', Y', rfl, HX.out, HLG.out⟩⟩
    have HGG : Hid (t - j ≤ gk) := Lib.hid HG.out
    clear HG
    obtain ⟨mi, hmi⟩ : ∃ z : Int, ((2 * (t - j) : Nat) : Int) = z := ⟨_, rfl⟩
    rw [hmi]
    have hmi0 : 0 < mi ∧ mi ≤ 200 := by omega
    have HMI := Lib.hid hmi
    clear hmi
    obtain ⟨al, cl, hv10, hxs⟩ := prL_xys HO.out
    have HX := Lib.hid hxs
    subst hv10
    clear hxs
    obtain ⟨l, hl⟩ : ∃ l, n + 2 * j = l + 1 := ⟨n + 2 * j - 1, by omega⟩
    rw [hl] at HO HU HLG HX hvm ⊢
    have hl9 : l + 1 ≤ 500 := by omega
    have hown := HO.out.lt
    have HON : Hid (∀ k, k < l + 1 → (0 ≤ X' k ∧ X' k < 30) ∧ 0 ≤ Y' k ∧ Y' k < 30) := Lib.hid (fun k hk => by
      have := (opB_iff.1 (opA_iff.1 HLG.out.pth.2.2 k hk)).1
      omega)
    have HST : Hid (∀ k, k < l → wyN X' Y' k ≠ -1) := Lib.hid (fun k hk => HLG.out.pth.2.1 k (by omega))
    obtain ⟨r0, r1, r2, r3, r4, r5⟩ : wr.cell? ⟨b8, 0, none⟩ = some (.int .i64 W) ∧ wr.cell? ⟨b8, 1, none⟩ = some (.int .i64 H) ∧ wr.cell? ⟨b8, 2, none⟩ = some (.int .i64 M) ∧ wr.cell? ⟨b8, 3, none⟩ = some (.int .i64 B) ∧ wr.cell? ⟨b8, 4, none⟩ = some (.slice ao nb cb) ∧ wr.cell? ⟨b8, 5, none⟩ = some (.map (some m)) := ⟨cell_of_blk KB.out rfl, cell_of_blk KB.out rfl, cell_of_blk KB.out rfl, cell_of_blk KB.out rfl, cell_of_blk KB.out rfl, cell_of_blk KB.out rfl⟩
    go_wp2_with fail
    refine (room_any W H M B nb cb m l cl mu ao al (blkN XB YB nb) (blkN X' Y' (l + 1)) nb N2 X' Y' _ (by omega) (by omega) KM.out HU.out (by omega) HX.out HON.out HST.out).mono ?_
    rintro e w5 ⟨hb, hcase⟩
    have HO5 := Lib.hid (own_below' HO.out hb)
    have HU5 := Lib.hid (HU.out.keep (hb.block _ HU.out.lt))
    have KB5 : Hid (w5.heap[b8]? = some (.cells #[.int .i64 W, .int .i64 H, .int .i64 M, .int .i64 B, .slice ao nb cb, .map (some m)] 68 (0, 0))) := Lib.hid ((hb.block _ (by omega)).trans KB.out)
    have KM5 := Lib.hid (KM.out.keep (hb.block _ KM.out.lt))
    have HB5 : Hid (Below w.heap.size w w5) := Lib.hid (HB.out.trans (hb.mono HB.out.size))
    have hz5 : mu < w5.heap.size ∧ BB ≤ w5.heap.size := by have := hb.size; omega
    have HLT := Lib.hid hown
    clear hb r0 r1 r2 r3 r4 r5 HO HU KB KM HB HX hown
    rcases hcase with rfl | ⟨i, g, s, o9, hrm, rfl, hg0, hgc⟩
    · have he : ∀ w : World, (binOp .eql 22 (.slice none 0 0) (.slice none 0 0)).run Try.prog w = .ok (.bool true) w := fun _ => rfl
      go_wp2_with fail
      refine bodyPost_ret (v := .tuple #[.slice none 0 0, .int .i64 5]) (by simp [results, Try.results20, go_sem]) rfl ⟨HB5.out, Or.inl rfl⟩
    have he : ∀ w : World, (binOp .eql 22 (.slice (some ⟨g, 0, none⟩) 2 2) (.slice none 0 0)).run Try.prog w = .ok (.bool false) w := fun _ => rfl
    have hil : i < l := hrm.1
    have HRM := Lib.hid hrm
    have hob1 := (opB_iff.1 hrm.2.2.2.1).1
    have hob2 := (opB_iff.1 hrm.2.2.2.2.1).1
    obtain ⟨a, hae⟩ : ∃ z, nx (X' i) o9 = z := ⟨_, rfl⟩
    obtain ⟨b, hbe⟩ : ∃ z, ny (Y' i) o9 = z := ⟨_, rfl⟩
    obtain ⟨c, hce⟩ : ∃ z, nx (X' (i + 1)) o9 = z := ⟨_, rfl⟩
    obtain ⟨d, hde⟩ : ∃ z, ny (Y' (i + 1)) o9 = z := ⟨_, rfl⟩
    rw [hae, hbe] at hob1
    rw [hce, hde] at hob2
    rw [hae, hbe, hce, hde] at hgc
    have HLN : Hid (Lng W H (blkN XB YB nb) X Y n (ins2 X' i a c) (ins2 Y' i b d) (l + 1 + 2)) := Lib.hid (by
      have h := HLG.out.ins (i := i) (s := s) (o := o9) (by rw [show l + 1 - 1 = l by omega]; exact HRM.out)
      rw [hae, hbe, hce, hde] at h
      exact h)
    have KG5 := Lib.hid hgc
    have hgl : g < w5.heap.size := (Array.getElem?_eq_some_iff.1 hgc).1
    have hgne : (Value.slice al (l + 1) cl).ownBlock ≠ some g := fun e => by have := (HLT.out _ e).2; omega
    clear hrm hgc hae hbe hce hde HLG
    go_wp2_with fail
    have hins := insert_any BB (l + 1) (i + 1) g 2 (.slice al (l + 1) cl) (xyC (prL X' Y' (l + 1))) (.int .i64 a) (.int .i64 b) (.int .i64 c) (.int .i64 d) w5 (by omega) (by omega) hz5.2 HO5.out (xyC_one _) KG5.out hgne (by intro v hv; simp only [List.mem_cons, List.not_mem_nil, or_false] at hv; rcases hv with rfl | rfl | rfl | rfl <;> rfl)
    rw [show ((i + 1 : Nat) : Int) = (i : Int) + 1 by omega] at hins
    refine hins.mono ?_
    rintro e w6 ⟨v6, rfl, hown6, hb6, hblk, hob6⟩
    have HO6 : Hid (w6.ownsRow BB 26 2 v6 (l + 1 + 2) (xyC (prL (ins2 X' i a c) (ins2 Y' i b d) (l + 1 + 2)))) := Lib.hid (by
      rw [prL_ins (by omega), xyC_app, xyC_app, xyC_take, xyC_drop]; exact hown6)
    have hk6 : ∀ k, k < w5.heap.size → k < BB ∨ k = mu ∨ k = g → w6.heap[k]? = w5.heap[k]? := fun k hk hc => by
      refine hblk k hk (fun e => ?_)
      rcases hc with h | h | h
      · have := (HO5.out.lt _ e).1; omega
      · exact hvm (by rw [e, h])
      · exact hgne (by rw [e, h])
    have HU6 := Lib.hid (HU5.out.keep (hk6 mu hz5.1 (Or.inr (Or.inl rfl))))
    have KB6 : Hid (w6.heap[b8]? = some (.cells #[.int .i64 W, .int .i64 H, .int .i64 M, .int .i64 B, .slice ao nb cb, .map (some m)] 68 (0, 0))) := Lib.hid ((hk6 _ (by omega) (Or.inl (by omega))).trans KB5.out)
    have KM6 := Lib.hid (KM5.out.keep (hk6 m (by omega) (Or.inl (by omega))))
    have KG6 : Hid (w6.heap[g]? = some (.cells #[.int .i64 a, .int .i64 b, .int .i64 c, .int .i64 d] 26 (0, 0))) := Lib.hid ((hk6 g hgl (Or.inr (Or.inr rfl))).trans KG5.out)
    have HB6 : Hid (Below w.heap.size w w6) := Lib.hid (HB5.out.trans (hb6.mono (by omega)))
    have hz6 : mu < w6.heap.size ∧ BB ≤ w6.heap.size ∧ g < w6.heap.size := by have := hb6.size; omega
    have hvm6 : v6.ownBlock ≠ some mu := by
      rcases hob6 with h | ⟨g6, h, h9⟩
      · rw [h]; exact hvm
      · rw [h]; intro e; have : g6 = mu := Option.some.inj e; omega
    have hgB : BB ≤ g := by omega
    clear hown6 hb6 hblk hob6 hk6 HO5 HU5 KB5 KM5 KG5 HB5 hz5 hvm hgl hgne he hins HON HST HLT
    go_wp2_with fail
    go_loopw [61] (fun iv wr => ∃ q : Nat, iv = .int .i64 q ∧ q ≤ 2 ∧ Hid (wr.ownsRow BB 26 2 v6 (l + 1 + 2) (xyC (prL (ins2 X' i a c) (ins2 Y' i b d) (l + 1 + 2)))) ∧ Hid (BMap wr mu (N2 + q) (U2 (blkN X' Y' (l + 1)) a b c d q)) ∧ Hid (wr.heap[b8]? = some (.cells #[.int .i64 W, .int .i64 H, .int .i64 M, .int .i64 B, .slice ao nb cb, .map (some m)] 68 (0, 0))) ∧ Hid (BMap wr m nb (blkN XB YB nb)) ∧ Hid (wr.heap[g]? = some (.cells #[.int .i64 a, .int .i64 b, .int .i64 c, .int .i64 d] 26 (0, 0))) ∧ Hid (Below w.heap.size w wr) ∧ mu < wr.heap.size ∧ BB ≤ wr.heap.size ∧ g < wr.heap.size) (fun iv _ => 2 - (intOf iv).toNat)
    case atStart => exact ⟨0, rfl, by omega, HO6, HU6, KB6, KM6, KG6, HB6, hz6⟩
    case round =>
      obtain ⟨q, rfl, hq, HO, HU, KB, KM, KG, HB, hz⟩ := hrel
      clear HO6 HU6 KB6 KM6 KG6 HB6 hz6
      by_cases hq2 : q < 2
      case neg =>
        obtain rfl : q = 2 := by omega
        have HU' : Hid (BMap wr mu (N2 + 2) (blkN (ins2 X' i a c) (ins2 Y' i b d) (l + 1 + 2))) := Lib.hid (by
          have h : blkN (ins2 X' i a c) (ins2 Y' i b d) (l + 1 + 2) = U2 (blkN X' Y' (l + 1)) a b c d 2 := by funext p r; rw [blkN_ins (by omega)]; rfl
          rw [h]; exact HU.out)
        have e2 : n + 2 * (j + 1) = l + 1 + 2 := by omega
        have HM2 : Hid (mi - 2 = ((2 * (t - (j + 1)) : Nat) : Int)) := Lib.hid (by have := HMI.out; omega)
        have hw : IntKind.i64.wrap (mi - 2) = mi - 2 := by rw [IntKind.wrap_i64]; omega
        go_wp2_with fail
        go_roundg (t - (j + 1))
        case measure => have := HGG.out; omega
        case rel => exact ⟨j + 1, ins2 X' i a c, ins2 Y' i b d, N2 + 2, by rw [HM2.out], by omega, Lib.hid (Nat.le_refl _), by omega, hvm6, by rw [e2]; exact HO, by rw [e2]; exact HU', by rw [e2]; exact HLN, KB, KM, HB, hz.1, hz.2.1⟩
      obtain ⟨x, y, hxy, hc0, hc1, hxr⟩ : ∃ x y : Int, ((q = 0 ∧ x = a ∧ y = b) ∨ (q = 1 ∧ x = c ∧ y = d)) ∧ wr.cell? ⟨g, q * 2, none⟩ = some (.int .i64 x) ∧ wr.cell? ⟨g, q * 2 + 1, none⟩ = some (.int .i64 y) ∧ (0 ≤ x ∧ x < 30) ∧ 0 ≤ y ∧ y < 30 := by
        have : q = 0 ∨ q = 1 := by omega
        rcases this with rfl | rfl
        · exact ⟨a, b, Or.inl ⟨rfl, rfl, rfl⟩, cell_of_blk KG.out rfl, cell_of_blk KG.out rfl, by omega⟩
        · exact ⟨c, d, Or.inr ⟨rfl, rfl, rfl⟩, cell_of_blk KG.out rfl, cell_of_blk KG.out rfl, by omega⟩
      have HUa : BMap (wr.alloc (.cells #[.int .i64 x, .int .i64 y] 26)) mu (N2 + q) (U2 (blkN X' Y' (l + 1)) a b c d q) := HU.out.keep (Below.heap_alloc _ _ _ hz.1)
      obtain ⟨w7, hrun, hB7, hg7⟩ := HUa.put (by unfold maxLen; omega) (wf7 (x := x) (by omega) (by omega)) (wf7 (x := y) (by omega) (by omega))
      have hba : Below wr.heap.size wr (wr.alloc (.cells #[.int .i64 x, .int .i64 y] 26)) := bal (Below.refl _ _) _
      have hk7 : ∀ k, k < wr.heap.size → k ≠ mu → w7.heap[k]? = wr.heap[k]? := fun k hk hn => (hg7.block _ (by simp; omega) (fun e => by cases e; exact hn rfl)).trans (hba.block _ hk)
      have HU7 : Hid (BMap w7 mu (N2 + (q + 1)) (U2 (blkN X' Y' (l + 1)) a b c d (q + 1))) := Lib.hid (by rw [U2_next hxy]; exact hB7)
      have HO7 : Hid (w7.ownsRow BB 26 2 v6 (l + 1 + 2) (xyC (prL (ins2 X' i a c) (ins2 Y' i b d) (l + 1 + 2)))) := Lib.hid ((HO.out.alloc _).kept hg7 (by
        cases hv : v6.ownBlock with
        | none => exact .inl rfl
        | some b => exact .inr (fun e => by cases e; exact hvm6 hv)))
      have KB7 : Hid (w7.heap[b8]? = some (.cells #[.int .i64 W, .int .i64 H, .int .i64 M, .int .i64 B, .slice ao nb cb, .map (some m)] 68 (0, 0))) := Lib.hid ((hk7 _ (by omega) (by omega)).trans KB.out)
      have KM7 := Lib.hid (KM.out.keep (hk7 m (by omega) (by omega)))
      have KG7 : Hid (w7.heap[g]? = some (.cells #[.int .i64 a, .int .i64 b, .int .i64 c, .int .i64 d] 26 (0, 0))) := Lib.hid ((hk7 g (by omega) (by omega)).trans KG.out)
      have HB7 : Hid (Below w.heap.size w w7) := Lib.hid ((HB.out.alloc HB.out.size _).grown hg7 (by have := HB.out.size; simp; omega) (by intro k e; cases e; omega))
      have hz7 : mu < w7.heap.size ∧ BB ≤ w7.heap.size ∧ g < w7.heap.size := by have := hg7.size; simp at this; omega
      clear HUa hba hk7 hB7 hg7 HO HU KB KM KG HB
      go_wp2_with fail
      go_roundw
      case rel => exact ⟨q + 1, by go_num, by omega, HO7, HU7, KB7, KM7, KG7, HB7, hz7⟩
      case measure => simp [intOf]; omega
end Go.Proofs.Ytkkcnhhfdicppaa
