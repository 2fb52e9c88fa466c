import Derived.Test.YtkkcnhhfdicppaaPi7
import Derived.Test.YtkkcnhhfdicppaaRf7
import Derived.Test.YtkkcnhhfdicppaaRx7
import Derived.Test.YtkkcnhhfdicppaaDb7
namespace Go.Proofs.Ytkkcnhhfdicppaa
open Go.RowKit Lay
theorem idx_dm2 {Wn Hn N x y : Nat} (hN : N = Hn * Wn) (hx : x < Wn) (hy : y < Hn) : y * Wn + x < N ∧ (y * Wn + x) % Wn = x ∧ (y * Wn + x) / Wn = y := by
  refine ⟨?_, by rw [Nat.mul_comm, Nat.mul_add_mod, Nat.mod_eq_of_lt hx], by rw [Nat.mul_comm, Nat.mul_add_div (by omega), Nat.div_eq_of_lt hx]; omega⟩
  have h : (y + 1) * Wn ≤ Hn * Wn := Nat.mul_le_mul_right _ hy
  rw [Nat.succ_mul] at h
  omega
theorem prL_cells {w : World} {b N : Nat} {v : Value} {X Y : Nat → Int} (h : w.ownsRow b 26 2 v N (xyC (prL X Y N))) : ∃ ao cap, v = .slice ao N cap ∧ XYs w ao N X Y := by
  obtain ⟨ao, cap, hv, hx⟩ := own_xys h (prL_len _ _ _)
  refine ⟨ao, cap, hv, fun h0 => ?_⟩
  obtain ⟨b, o, e, hc⟩ := hx h0
  refine ⟨b, o, e, fun i hi => ?_⟩
  have hg : (prL X Y N).getD i (0, 0) = (X i, Y i) := by
    unfold prL
    rw [List.getD_eq_getElem?_getD, List.getElem?_map, List.getElem?_range hi]
    rfl
  have := hc i hi
  simp only [hg] at this
  exact this
set_option maxRecDepth 100000 in
set_option maxHeartbeats 64000000 in
theorem cheap_big (W H M B : Int) (nb cb n cp : Nat) (ao ap : Option Addr) (XB YB _X _Y : Nat → Int) (w : World) (hs : smG W H M B nb XB YB = false)
    (hn : nb ≤ 9223372036854775807) (hc : XYs w ao nb XB YB) :
    Calls Try.prog 8 #[.agg #[.int .i64 W, .int .i64 H, .int .i64 M, .int .i64 B, .slice ao nb cb], .slice ap n cp] w fun e w' => e = .returned (.bool true) ∧ Below w.heap.size w w' := by
  have HC := Lib.hid hc
  clear hc
  have HSM := Lib.hid hs
  clear hs
  go_enter Try.func8, Try.ntmps8
  go_wp2_with fail
  refine (small_any W H M B nb cb ao XB YB _ hn (HC.out.keep (by go_grown))).mono ?_
  rw [HSM.out]
  rintro e w1 ⟨rfl, hb⟩
  have HB1 : Hid (Below w.heap.size w w1) := Lib.hid (Below.trans (by go_grown) (hb.mono (by simp)))
  have KG1 : Hid (G5 w1 w.heap.size W H M B ao nb cb) := Lib.hid ((hb.block _ (by simp)).trans (heap_alloc_new w _))
  have hz1 : w.heap.size < w1.heap.size := by have := hb.size; simp at this; omega
  clear hb
  go_wp2_with fail
  refine (lawake_any _).mono ?_
  rintro e wA ⟨rfl, hb⟩
  have HBA : Hid (Below w.heap.size w wA) := Lib.hid (HB1.out.trans (hb.mono HB1.out.size))
  clear hb
  go_wp2_with fail
  refine bodyPost_ret (v := .bool true) (by simp [results, Try.results8, go_sem]) rfl ⟨rfl, HBA.out⟩
set_option maxRecDepth 100000 in
set_option maxHeartbeats 64000000 in
theorem cheap_long (W H M B : Int) (nb cb n cp : Nat) (ao ap : Option Addr) (XB YB _X _Y : Nat → Int) (w : World) (hs : smG W H M B nb XB YB = true) (h3 : 300 < n)
    (hn : nb ≤ 9223372036854775807) (hc : XYs w ao nb XB YB) :
    Calls Try.prog 8 #[.agg #[.int .i64 W, .int .i64 H, .int .i64 M, .int .i64 B, .slice ao nb cb], .slice ap n cp] w fun e w' => e = .returned (.bool true) ∧ Below w.heap.size w w' := by
  have HC := Lib.hid hc
  clear hc
  have HSM := Lib.hid hs
  clear hs
  have h3' : (300 : Int) < n := by omega
  go_enter Try.func8, Try.ntmps8
  go_wp2_with fail
  refine (small_any W H M B nb cb ao XB YB _ hn (HC.out.keep (by go_grown))).mono ?_
  rw [HSM.out]
  rintro e w1 ⟨rfl, hb⟩
  have HB1 : Hid (Below w.heap.size w w1) := Lib.hid (Below.trans (by go_grown) (hb.mono (by simp)))
  have KG1 : Hid (G5 w1 w.heap.size W H M B ao nb cb) := Lib.hid ((hb.block _ (by simp)).trans (heap_alloc_new w _))
  have hz1 : w.heap.size < w1.heap.size := by have := hb.size; simp at this; omega
  clear hb
  go_wp2_with fail
  refine (lawake_any _).mono ?_
  rintro e wA ⟨rfl, hb⟩
  have HBA : Hid (Below w.heap.size w wA) := Lib.hid (HB1.out.trans (hb.mono HB1.out.size))
  clear hb
  go_wp2_with fail
  refine bodyPost_ret (v := .bool true) (by simp [results, Try.results8, go_sem]) rfl ⟨rfl, HBA.out⟩
set_option maxRecDepth 100000 in
set_option maxHeartbeats 64000000 in
theorem cheap_err (W H M B : Int) (nb cb n cp : Nat) (ao ap : Option Addr) (XB YB X Y : Nat → Int) (w : World) (hs : smG W H M B nb XB YB = true) (h3 : n ≤ 300) (E : Int) (hE : rdE (vaG W H M B nb XB YB) 1 (chE W H (blkN XB YB nb) X Y n) = E) (hne : E ≠ 0) (hcp : n ≤ cp) (hp : XYs w ap n X Y) (hr : R2 X Y n)
    (hn : nb ≤ 9223372036854775807) (hc : XYs w ao nb XB YB) :
    Calls Try.prog 8 #[.agg #[.int .i64 W, .int .i64 H, .int .i64 M, .int .i64 B, .slice ao nb cb], .slice ap n cp] w fun e w' => e = .returned (.bool true) ∧ Below w.heap.size w w' := by
  have HC := Lib.hid hc
  clear hc
  have HSM := Lib.hid hs
  have HP := Lib.hid hp
  have HR := Lib.hid hr
  have HE := Lib.hid hE
  clear hs hp hr hE
  have h3' : ¬ (300 : Int) < n := by omega
  have heb : (E != 0) = true := bne_iff_ne.2 hne
  go_enter Try.func8, Try.ntmps8
  go_wp2_with fail
  refine (small_any W H M B nb cb ao XB YB _ hn (HC.out.keep (by go_grown))).mono ?_
  rw [HSM.out]
  rintro e w1 ⟨rfl, hb⟩
  have HB1 : Hid (Below w.heap.size w w1) := Lib.hid (Below.trans (by go_grown) (hb.mono (by simp)))
  have KG1 : Hid (G5 w1 w.heap.size W H M B ao nb cb) := Lib.hid ((hb.block _ (by simp)).trans (heap_alloc_new w _))
  have hz1 : w.heap.size < w1.heap.size := by have := hb.size; simp at this; omega
  clear hb
  obtain ⟨g0, g1, g2, g3, g4⟩ := G5.c KG1.out
  go_wp2_with fail
  refine (rCheck_any W H M B nb cb n cp ao ap XB YB X Y _ hn (HC.out.keep HB1.out) (by omega) hcp (HP.out.keep HB1.out) HR.out).mono ?_
  rw [HE.out]
  rintro e w2 ⟨rfl, hb⟩
  have HB2 : Hid (Below w.heap.size w w2) := Lib.hid (HB1.out.trans (hb.mono HB1.out.size))
  clear hb g0 g1 g2 g3 g4 KG1 HB1
  go_wp2_with fail
  refine (lawake_any _).mono ?_
  rintro e wA ⟨rfl, hb⟩
  have HBA : Hid (Below w.heap.size w wA) := Lib.hid (HB2.out.trans (hb.mono HB2.out.size))
  clear hb
  go_wp2_with fail
  refine bodyPost_ret (v := .bool true) (by simp [results, Try.results8, go_sem]) rfl ⟨rfl, HBA.out⟩
set_option maxRecDepth 100000 in
set_option maxHeartbeats 64000000 in
theorem cheap_ok (W H M B : Int) (nb cb n cp : Nat) (ao ap : Option Addr) (XB YB X Y : Nat → Int) (w : World) (l : Nat) (hl : n = l + 1) (hs : smG W H M B nb XB YB = true) (hv : vaG W H M B nb XB YB = true) (h3 : n ≤ 300) (hE : chE W H (blkN XB YB nb) X Y n = 0) (hcp : n ≤ cp) (hp : XYs w ap n X Y) (hr : R2 X Y n)
    (hn : nb ≤ 9223372036854775807) (hc : XYs w ao nb XB YB) :
    Calls Try.prog 8 #[.agg #[.int .i64 W, .int .i64 H, .int .i64 M, .int .i64 B, .slice ao nb cb], .slice ap n cp] w fun e w' => e = .returned (.bool true) ∧ Below w.heap.size w w' := by
  have HC := Lib.hid hc
  clear hc
  subst hl
  have HSM := Lib.hid hs
  have HP := Lib.hid hp
  have HR := Lib.hid hr
  have HE := Lib.hid hE
  have HV := Lib.hid hv
  obtain ⟨hnum, _⟩ := vaG_num hv
  have hch := chE_ok.1 hE
  obtain ⟨_, _, hpa3⟩ := paB_iff.1 hch.1
  have hof := opA_iff.1 hch.2 0 (by omega)
  have hot := opA_iff.1 hch.2 l (by omega)
  have hon0 := (opB_iff.1 hof).1
  have hon1 := (opB_iff.1 hot).1
  obtain ⟨Wn, hWn⟩ : ∃ k : Nat, W = k := ⟨W.toNat, by omega⟩
  obtain ⟨Hn, hHn⟩ : ∃ k : Nat, H = k := ⟨H.toNat, by omega⟩
  obtain ⟨N, hN⟩ : ∃ k : Nat, (k : Int) = W * H := ⟨Hn * Wn, by rw [hWn, hHn]; push_cast; exact Int.mul_comm _ _⟩
  have hN2 : N = Hn * Wn := by have h := hN; rw [hWn, hHn, ← Int.natCast_mul] at h; rw [Nat.mul_comm]; exact Int.ofNat.inj h
  have hN9 : N ≤ 900 := by rw [hN2]; exact Nat.le_trans (Nat.mul_le_mul (show Hn ≤ 30 by omega) (show Wn ≤ 30 by omega)) (by decide)
  have HMATH : Hid (∀ F, Costs W H (blkN XB YB nb) M B (X l) (Y l) F → ∃ (nn L : Nat) (r : List (Int × Int)) (c : Int) (X' Y' : Nat → Int), rt F M B (X l) (Y l) nn (X 0) (Y 0) (-1) = some (r, c) ∧ (X 0, Y 0) :: r = prL X' Y' (L + 1) ∧ r.length = L ∧ L + 1 ≤ 900 ∧ chE W H (blkN XB YB nb) X' Y' (L + 1) = 0 ∧
      (X' 0 = X 0 ∧ Y' 0 = Y 0 ∧ X' L = X l ∧ Y' L = Y l) ∧ coN M B X' Y' L = c ∧ c ≤ coN M B X Y l ∧ (0 ≤ c ∧ c ≤ 9000000) ∧ farS F B (X l) (Y l) (X 0) (Y 0) = c ∧ ∀ G, Costs W H (blkN XB YB nb) M B (X 0) (Y 0) G → farS G B (X 0) (Y 0) (X l) (Y l) = c) := Lib.hid (fun F hF => by
    have h := hch.2
    rw [hWn, hHn] at h hF ⊢
    exact cheap_math (by omega) (by omega) (by omega) (by omega) h (fun k hk => hpa3 k (by omega)) hF)
  have HNW := Lib.hid (And.intro hN (And.intro hN2 (And.intro hWn hHn)))
  have HOP := Lib.hid (And.intro hof hot)
  clear hs hp hr hE hv hch hpa3 hof hot hN hN2 hWn hHn
  have h3' : ¬ (300 : Int) < ((l + 1 : Nat) : Int) := by omega
  go_enter Try.func8, Try.ntmps8
  go_wp2_with fail
  refine (small_any W H M B nb cb ao XB YB _ hn (HC.out.keep (by go_grown))).mono ?_
  rw [HSM.out]
  rintro e w1 ⟨rfl, hb⟩
  have HB1 : Hid (Below w.heap.size w w1) := Lib.hid (Below.trans (by go_grown) (hb.mono (by simp)))
  have KG1 : Hid (G5 w1 w.heap.size W H M B ao nb cb) := Lib.hid ((hb.block _ (by simp)).trans (heap_alloc_new w _))
  have hz1 : w.heap.size < w1.heap.size := by have := hb.size; simp at this; omega
  clear hb
  obtain ⟨g0, g1, g2, g3, g4⟩ := G5.c KG1.out
  go_wp2_with fail
  refine (rCheck_any W H M B nb cb (l + 1) cp ao ap XB YB X Y _ hn (HC.out.keep HB1.out) (by omega) hcp (HP.out.keep HB1.out) HR.out).mono ?_
  rw [HV.out, HE.out]
  rintro e w2 ⟨rfl, hb⟩
  have HB2 : Hid (Below w.heap.size w w2) := Lib.hid (HB1.out.trans (hb.mono HB1.out.size))
  have KG2 : Hid (G5 w2 w.heap.size W H M B ao nb cb) := Lib.hid ((hb.block _ hz1).trans KG1.out)
  have hz2 : w.heap.size < w2.heap.size := by have := hb.size; omega
  clear hb g0 g1 g2 g3 g4 KG1 HB1 hz1
  obtain ⟨g0, g1, g2, g3, g4⟩ := G5.c KG2.out
  have hrd : rdE true 1 0 = 0 := rfl
  rw [hrd]
  go_wp2_with fail
  refine (pCost_ok W H M B nb cb ao XB YB (l + 1) cp ap X Y _ HV.out HE.out hn (HC.out.keep HB2.out) (by omega) (HP.out.keep HB2.out) HR.out).mono ?_
  rw [show l + 1 - 1 = l by omega]
  have hcol := coN_le (M := M) (B := B) (X := X) (Y := Y) (by omega) (by omega) l
  obtain ⟨own, hown⟩ : ∃ z, coN M B X Y l = z := ⟨_, rfl⟩
  rw [hown] at hcol ⊢
  have HOWN := Lib.hid hown
  clear hown
  rintro e wo ⟨rfl, hb⟩
  have HBo : Hid (Below w.heap.size w wo) := Lib.hid (HB2.out.trans (hb.mono HB2.out.size))
  have KGo : Hid (G5 wo w.heap.size W H M B ao nb cb) := Lib.hid ((hb.block _ hz2).trans KG2.out)
  have hzo : w.heap.size < wo.heap.size := by have := hb.size; omega
  clear hb g0 g1 g2 g3 g4 KG2 HB2 hz2 hrd
  obtain ⟨x0, hx0⟩ : ∃ z, X 0 = z := ⟨_, rfl⟩
  obtain ⟨y0, hy0⟩ : ∃ z, Y 0 = z := ⟨_, rfl⟩
  obtain ⟨x1, hx1⟩ : ∃ z, X l = z := ⟨_, rfl⟩
  obtain ⟨y1, hy1⟩ : ∃ z, Y l = z := ⟨_, rfl⟩
  rw [hx0, hy0] at hon0
  rw [hx1, hy1] at hon1
  have HOP2 : Hid (opB W H (blkN XB YB nb) x0 y0 = true ∧ opB W H (blkN XB YB nb) x1 y1 = true) := Lib.hid (by have h := HOP.out; rw [hx0, hy0, hx1, hy1] at h; exact h)
  have HM2 : Hid (∀ F, Costs W H (blkN XB YB nb) M B x1 y1 F → ∃ (nn L : Nat) (r : List (Int × Int)) (c : Int) (X' Y' : Nat → Int), rt F M B x1 y1 nn x0 y0 (-1) = some (r, c) ∧ (x0, y0) :: r = prL X' Y' (L + 1) ∧ r.length = L ∧ L + 1 ≤ 900 ∧ chE W H (blkN XB YB nb) X' Y' (L + 1) = 0 ∧
      (X' 0 = x0 ∧ Y' 0 = y0 ∧ X' L = x1 ∧ Y' L = y1) ∧ coN M B X' Y' L = c ∧ c ≤ own ∧ (0 ≤ c ∧ c ≤ 9000000) ∧ farS F B x1 y1 x0 y0 = c ∧ ∀ G, Costs W H (blkN XB YB nb) M B x0 y0 G → farS G B x0 y0 x1 y1 = c) := Lib.hid (by have h := HMATH.out; rw [hx0, hy0, hx1, hy1, HOWN.out] at h; exact h)
  obtain ⟨b, o, rfl, hcell⟩ := (HP.out.keep HBo.out) (by omega)
  have hc0 := hcell 0 (by omega)
  have hc1 := hcell l (by omega)
  rw [hx0, hy0, Nat.zero_mul, Nat.add_zero] at hc0
  rw [hx1, hy1] at hc1
  have G0 : Hid (∀ w' : World, Below wo.heap.size wo w' → XyAt w' b o x0 y0 ∧ XyAt w' b (o + l * 2) x1 y1) := Lib.hid (fun w' hb => ⟨hc0.keep hb, hc1.keep hb⟩)
  have hlt1 : (l : Int) < (l : Int) + 1 := by omega
  have hwl : IntKind.i64.wrap (l : Int) = l := by rw [IntKind.wrap_i64]; omega
  have hlt2 : (0 : Int) < (l : Int) + 1 := by omega
  have hlt0 : (0 : Int) ≤ (l : Int) := by omega
  have hcn : ((l + 1 : Nat) : Int) - 1 = l := by omega
  clear hcell hc0 hc1 hx0 hy0 hx1 hy1 HMATH HOP
  go_upto_region 6 with fail
  go_cut [9, 10] (fun v9 v10 wx => ∃ b9 b10, v9 = .pointer (some ⟨b9, 0, none⟩) ∧ v10 = .pointer (some ⟨b10, 0, none⟩) ∧ wx.heap[b9]? = some (.cells #[.int .i64 x0, .int .i64 y0] 26 (0, 0)) ∧ wx.heap[b10]? = some (.cells #[.int .i64 x1, .int .i64 y1] 26 (0, 0)) ∧ Below wo.heap.size wo wx)
  case first =>
    have DI : Below wo.heap.size wo wo := Below.refl _ _
    have D0 : Below wo.heap.size wo wo.drew := DI.drew
    clear HOWN HC HP HR HE HV hon0 hon1 hnum HNW HOP2 HM2
    refine wp_region_held_drew (S := fun w' => XyAt w' b o x0 y0 ∧ XyAt w' b (o + l * 2) x1 y1) (by kernel_rfl) (G0.out _ D0) (fun hHeld => ?_)
    refine wpAnyH_take (i := 0) (oi := _) (v := ?_) rfl (by kernel_rfl) (by kernel_rfl) (by kernel_rfl) (fun _ _ _ h => h) (Or.inl ⟨by rfl, ?_⟩) (by assumption) ?_
    rotate_left
    · intro w hSw; obtain ⟨s0, s1⟩ := hSw; go_simp; (try with_reducible rfl)
    try change wpAnyH _ _ _ _ _ _ _ (Act.put _ (some 47) _) _
    try simp only [act_all]
    refine wpAnyH_take (i := 1) (oi := _) (v := ?_) rfl (by kernel_rfl) (by kernel_rfl) (by kernel_rfl) (fun _ _ _ h => h) (Or.inl ⟨by rfl, ?_⟩) (by assumption) ?_
    rotate_left
    · intro w hSw; obtain ⟨s0, s1⟩ := hSw; go_simp; (try with_reducible rfl)
    try change wpAnyH _ _ _ _ _ _ _ (Act.put _ (some 48) _) _
    try simp only [act_all]
    refine wpAnyH_take (i := 2) (oi := _) (v := _) rfl (by kernel_rfl) (by kernel_rfl) (by kernel_rfl) (fun _ _ _ h => h) (yieldsIf_load_mid (by rfl) 26 _ rfl b _ rfl ([.int .i64 x0, .int .i64 y0]) _ (fun w' hh => by simpa using range_xy hh.1) Try.underlying26 rfl (by kernel_rfl)) (by assumption) ?_
    try change wpAnyH _ _ _ _ _ _ _ (Act.put _ (some 49) _) _
    try simp only [act_all]
    refine wpAnyH_take (i := 3) (oi := _) (v := ?_) rfl (by kernel_rfl) (by kernel_rfl) (by kernel_rfl) (fun _ _ _ h => h) (Or.inl ⟨by rfl, ?_⟩) (by assumption) ?_
    rotate_left
    · intro w hSw; obtain ⟨s0, s1⟩ := hSw; go_simp; (try with_reducible rfl)
    try change wpAnyH _ _ _ _ _ _ _ (Act.put _ (some 50) _) _
    try simp only [act_all]
    refine wpAnyH_take (i := 4) (oi := _) (v := ?_) rfl (by kernel_rfl) (by kernel_rfl) (by kernel_rfl) (fun _ _ _ h => h) (Or.inl ⟨by rfl, ?_⟩) (by assumption) ?_
    rotate_left
    · intro w hSw; obtain ⟨s0, s1⟩ := hSw; go_simp; (try with_reducible rfl)
    try change wpAnyH _ _ _ _ _ _ _ (Act.put _ (some 51) _) _
    try simp only [act_all]
    refine wpAnyH_take (i := 5) (oi := _) (v := ?_) rfl (by kernel_rfl) (by kernel_rfl) (by kernel_rfl) (fun _ _ _ h => h) (Or.inl ⟨by rfl, ?_⟩) (by assumption) ?_
    rotate_left
    · intro w hSw; obtain ⟨s0, s1⟩ := hSw; go_simp; (try with_reducible rfl)
    try change wpAnyH _ _ _ _ _ _ _ (Act.put _ (some 52) _) _
    try simp only [act_all]
    refine wpAnyH_take (i := 6) (oi := _) (v := ?_) rfl (by kernel_rfl) (by kernel_rfl) (by kernel_rfl) (fun _ _ _ h => h) (Or.inl ⟨by rfl, ?_⟩) (by assumption) ?_
    rotate_left
    · intro w hSw; obtain ⟨s0, s1⟩ := hSw; go_simp; (try with_reducible rfl)
    try change wpAnyH _ _ _ _ _ _ _ (Act.put _ (some 53) _) _
    try simp only [act_all]
    refine wpAnyH_take (i := 7) (oi := _) (v := ?_) rfl (by kernel_rfl) (by kernel_rfl) (by kernel_rfl) (fun _ _ _ h => h) (Or.inl ⟨by rfl, ?_⟩) (by assumption) ?_
    rotate_left
    · intro w hSw; obtain ⟨s0, s1⟩ := hSw; go_simp; (try with_reducible rfl)
    try change wpAnyH _ _ _ _ _ _ _ (Act.put _ (some 54) _) _
    try simp only [act_all]
    refine wpAnyH_take (i := 8) (oi := _) (v := _) rfl (by kernel_rfl) (by kernel_rfl) (by kernel_rfl) (fun _ _ _ h => h) (yieldsIf_load_mid (by rfl) 26 _ rfl b _ rfl ([.int .i64 x1, .int .i64 y1]) _ (fun w' hh => by simpa using range_xy hh.2) Try.underlying26 rfl (by kernel_rfl)) (by assumption) ?_
    try change wpAnyH _ _ _ _ _ _ _ (Act.put _ (some 55) _) _
    try simp only [act_all]
    refine wpAnyH_ready (rs := [9, 10]) (by kernel_rfl) (by simp) ?_
    refine AllReadyH.cons (o := _) rfl (fun K hK => ?_) ?_
    ·
      go_simp
      have D1 : Below wo.heap.size wo (wo.alloc (Obj.cells #[.int .i64 0, .int .i64 0] 26)) := (DI.alloc (by simp) _)
      have E1 : Below wo.heap.size wo (wo.alloc (Obj.cells #[.int .i64 0, .int .i64 0] 26)).drew := D1.drew
      try clear hHeld
      refine hK.out _ _ (G0.out _ E1) (fun hHeld => ?_)
      clear hK K
      try simp only [act_all]
      refine wpAnyH_ready (rs := [10]) (by kernel_rfl) (by simp) ?_
      refine AllReadyH.cons (o := _) rfl (fun K hK => ?_) AllReadyH.nil
      go_simp
      have D2 : Below wo.heap.size wo ((wo.alloc (Obj.cells #[.int .i64 0, .int .i64 0] 26)).alloc (Obj.cells #[.int .i64 0, .int .i64 0] 26)) := ((DI.alloc (by simp) _).alloc (by simp) _)
      have E2 : Below wo.heap.size wo ((wo.alloc (Obj.cells #[.int .i64 0, .int .i64 0] 26)).alloc (Obj.cells #[.int .i64 0, .int .i64 0] 26)).drew := D2.drew
      try clear hHeld
      refine hK.out _ _ (G0.out _ E2) (fun hHeld => ?_)
      clear hK K
      try simp only [act_all]
      refine wpAnyH_ready (rs := [11]) (by kernel_rfl) (by simp) ?_
      refine AllReadyH.cons (o := _) rfl (fun K hK => ?_) AllReadyH.nil
      go_simp
      have D3 : Below wo.heap.size wo ((wo.alloc (Obj.cells #[.int .i64 x0, .int .i64 y0] 26)).alloc (Obj.cells #[.int .i64 0, .int .i64 0] 26)) := ((DI.alloc (by simp) _).alloc (by simp) _)
      have E3 : Below wo.heap.size wo ((wo.alloc (Obj.cells #[.int .i64 x0, .int .i64 y0] 26)).alloc (Obj.cells #[.int .i64 0, .int .i64 0] 26)).drew := D3.drew
      try clear hHeld
      refine hK.out _ _ (G0.out _ E3) (fun hHeld => ?_)
      clear hK K
      try simp only [act_all]
      refine wpAnyH_ready (rs := [12]) (by kernel_rfl) (by simp) ?_
      refine AllReadyH.cons (o := _) rfl (fun K hK => ?_) AllReadyH.nil
      go_simp
      have D4 : Below wo.heap.size wo ((wo.alloc (Obj.cells #[.int .i64 x0, .int .i64 y0] 26)).alloc (Obj.cells #[.int .i64 x1, .int .i64 y1] 26)) := ((DI.alloc (by simp) _).alloc (by simp) _)
      have E4 : Below wo.heap.size wo ((wo.alloc (Obj.cells #[.int .i64 x0, .int .i64 y0] 26)).alloc (Obj.cells #[.int .i64 x1, .int .i64 y1] 26)).drew := D4.drew
      try clear hHeld
      refine hK.out _ _ (G0.out _ E4) (fun hHeld => ?_)
      clear hK K
      try simp only [act_all]
      refine wpAnyH_done (by kernel_rfl) ?_ _
      clear hHeld
      have k1 : ((wo.alloc (Obj.cells #[.int .i64 x0, .int .i64 y0] 26)).alloc (Obj.cells #[.int .i64 x1, .int .i64 y1] 26)).heap[wo.heap.size + 1]? = some (.cells #[.int .i64 x1, .int .i64 y1] 26 (0, 0)) := by have h := heap_alloc_new (wo.alloc (Obj.cells #[.int .i64 x0, .int .i64 y0] 26)) (.cells #[.int .i64 x1, .int .i64 y1] 26); rwa [World.size_alloc] at h
      have k0 : ((wo.alloc (Obj.cells #[.int .i64 x0, .int .i64 y0] 26)).alloc (Obj.cells #[.int .i64 x1, .int .i64 y1] 26)).heap[wo.heap.size]? = some (.cells #[.int .i64 x0, .int .i64 y0] 26 (0, 0)) := (Below.heap_alloc _ _ _ (by simp)).trans (heap_alloc_new wo _)
      go_wp2_with fail
      go_meet
      exact ⟨_, _, rfl, rfl, k0, k1, D4.drew⟩
    refine AllReadyH.cons (o := _) rfl (fun K hK => ?_) AllReadyH.nil
    go_simp
    have D5 : Below wo.heap.size wo (wo.alloc (Obj.cells #[.int .i64 0, .int .i64 0] 26)) := (DI.alloc (by simp) _)
    have E5 : Below wo.heap.size wo (wo.alloc (Obj.cells #[.int .i64 0, .int .i64 0] 26)).drew := D5.drew
    try clear hHeld
    refine hK.out _ _ (G0.out _ E5) (fun hHeld => ?_)
    clear hK K
    try simp only [act_all]
    refine wpAnyH_ready (rs := [9]) (by kernel_rfl) (by simp) ?_
    refine AllReadyH.cons (o := _) rfl (fun K hK => ?_) AllReadyH.nil
    go_simp
    have D6 : Below wo.heap.size wo ((wo.alloc (Obj.cells #[.int .i64 0, .int .i64 0] 26)).alloc (Obj.cells #[.int .i64 0, .int .i64 0] 26)) := ((DI.alloc (by simp) _).alloc (by simp) _)
    have E6 : Below wo.heap.size wo ((wo.alloc (Obj.cells #[.int .i64 0, .int .i64 0] 26)).alloc (Obj.cells #[.int .i64 0, .int .i64 0] 26)).drew := D6.drew
    try clear hHeld
    refine hK.out _ _ (G0.out _ E6) (fun hHeld => ?_)
    clear hK K
    try simp only [act_all]
    refine wpAnyH_ready (rs := [11]) (by kernel_rfl) (by simp) ?_
    refine AllReadyH.cons (o := _) rfl (fun K hK => ?_) AllReadyH.nil
    go_simp
    have D7 : Below wo.heap.size wo ((wo.alloc (Obj.cells #[.int .i64 0, .int .i64 0] 26)).alloc (Obj.cells #[.int .i64 x0, .int .i64 y0] 26)) := ((DI.alloc (by simp) _).alloc (by simp) _)
    have E7 : Below wo.heap.size wo ((wo.alloc (Obj.cells #[.int .i64 0, .int .i64 0] 26)).alloc (Obj.cells #[.int .i64 x0, .int .i64 y0] 26)).drew := D7.drew
    try clear hHeld
    refine hK.out _ _ (G0.out _ E7) (fun hHeld => ?_)
    clear hK K
    try simp only [act_all]
    refine wpAnyH_ready (rs := [12]) (by kernel_rfl) (by simp) ?_
    refine AllReadyH.cons (o := _) rfl (fun K hK => ?_) AllReadyH.nil
    go_simp
    have D8 : Below wo.heap.size wo ((wo.alloc (Obj.cells #[.int .i64 x1, .int .i64 y1] 26)).alloc (Obj.cells #[.int .i64 x0, .int .i64 y0] 26)) := ((DI.alloc (by simp) _).alloc (by simp) _)
    have E8 : Below wo.heap.size wo ((wo.alloc (Obj.cells #[.int .i64 x1, .int .i64 y1] 26)).alloc (Obj.cells #[.int .i64 x0, .int .i64 y0] 26)).drew := D8.drew
    try clear hHeld
    refine hK.out _ _ (G0.out _ E8) (fun hHeld => ?_)
    clear hK K
    try simp only [act_all]
    refine wpAnyH_done (by kernel_rfl) ?_ _
    clear hHeld
    have k1 : ((wo.alloc (Obj.cells #[.int .i64 x1, .int .i64 y1] 26)).alloc (Obj.cells #[.int .i64 x0, .int .i64 y0] 26)).heap[wo.heap.size + 1]? = some (.cells #[.int .i64 x0, .int .i64 y0] 26 (0, 0)) := by have h := heap_alloc_new (wo.alloc (Obj.cells #[.int .i64 x1, .int .i64 y1] 26)) (.cells #[.int .i64 x0, .int .i64 y0] 26); rwa [World.size_alloc] at h
    have k0 : ((wo.alloc (Obj.cells #[.int .i64 x1, .int .i64 y1] 26)).alloc (Obj.cells #[.int .i64 x0, .int .i64 y0] 26)).heap[wo.heap.size]? = some (.cells #[.int .i64 x1, .int .i64 y1] 26 (0, 0)) := (Below.heap_alloc _ _ _ (by simp)).trans (heap_alloc_new wo _)
    go_wp2_with fail
    go_meet
    exact ⟨_, _, rfl, rfl, k1, k0, D8.drew⟩
  case rest =>
    obtain ⟨b9, b10, rfl, rfl, hk1, hk2, hbx⟩ := hcut
    obtain ⟨wC, hC⟩ : ∃ z, z = wc := ⟨wc, rfl⟩
    subst hC
    have K9C := Lib.hid hk1
    have K10C := Lib.hid hk2
    have HBC : Hid (Below w.heap.size w wC) := Lib.hid (HBo.out.trans (hbx.mono HBo.out.size))
    have KGC : Hid (G5 wC w.heap.size W H M B ao nb cb) := Lib.hid ((hbx.block _ hzo).trans KGo.out)
    have hzC : w.heap.size < wC.heap.size ∧ b9 < wC.heap.size ∧ b10 < wC.heap.size := ⟨by have := hbx.size; omega, (Array.getElem?_eq_some_iff.1 hk1).1, (Array.getElem?_eq_some_iff.1 hk2).1⟩
    clear hbx hk1 hk2 HBo KGo hzo G0 hlt1 hwl hlt2 hlt0
    obtain ⟨p0, p1⟩ : wC.cell? ⟨b9, 0, none⟩ = some (.int .i64 x0) ∧ wC.cell? ⟨b9, 1, none⟩ = some (.int .i64 y0) := ⟨cell_of_blk K9C.out rfl, cell_of_blk K9C.out rfl⟩
    obtain ⟨q0, q1⟩ : wC.cell? ⟨b10, 0, none⟩ = some (.int .i64 x1) ∧ wC.cell? ⟨b10, 1, none⟩ = some (.int .i64 y1) := ⟨cell_of_blk K10C.out rfl, cell_of_blk K10C.out rfl⟩
    obtain ⟨g0, g1, g2, g3, g4⟩ := G5.c KGC.out
    go_wp2_with fail
    refine (pRoute_any W H M B x0 y0 x1 y1 nb cb ao XB YB _ (HC.out.keep HBC.out) HV.out HOP2.out.1 HOP2.out.2 (fun F hF => by
      obtain ⟨nn, L, r, c, X', Y', h1, _, _, _, _, _, _, _, h9, _⟩ := HM2.out F hF
      exact ⟨nn, r, c, h1, h9.2⟩)).mono ?_
    rintro e w5 ⟨F, nn, r, c, v, hF, hrt, rfl, hrow, hb⟩
    obtain ⟨nn2, L, r2, c2, X', Y', m1, m2, m3, m4, m5, m6, m7, m8, m9, m10, m11⟩ := HM2.out F hF
    have hrr := rt_uniq hrt m1
    obtain ⟨rfl, rfl⟩ := Prod.mk.inj hrr
    rw [m2, m3] at hrow
    obtain ⟨al, cl, rfl, hxs⟩ := prL_cells hrow
    have HB5 : Hid (Below w.heap.size w w5) := Lib.hid (HBC.out.trans (hb.mono HBC.out.size))
    have K95 : Hid (w5.heap[b9]? = some (.cells #[.int .i64 x0, .int .i64 y0] 26 (0, 0))) := Lib.hid ((hb.block _ hzC.2.1).trans K9C.out)
    have K105 : Hid (w5.heap[b10]? = some (.cells #[.int .i64 x1, .int .i64 y1] 26 (0, 0))) := Lib.hid ((hb.block _ hzC.2.2).trans K10C.out)
    have KG5 : Hid (G5 w5 w.heap.size W H M B ao nb cb) := Lib.hid ((hb.block _ hzC.1).trans KGC.out)
    have hz5 : w.heap.size < w5.heap.size ∧ b9 < w5.heap.size ∧ b10 < w5.heap.size := by have := hb.size; omega
    have HXR := Lib.hid hxs
    have HF := Lib.hid hF
    have HM := Lib.hid (And.intro m5 (And.intro m7 (And.intro m10 m11)))
    clear hb g0 g1 g2 g3 g4 p0 p1 q0 q1 hrow hrt m1 m2 m3 m5 m7 m10 m11 hrr HBC K9C K10C KGC hzC HM2 hF
    obtain ⟨b2, o2, rfl, hcell⟩ := hxs (by omega)
    have hc0 := hcell 0 (by omega)
    have hc1 := hcell L (by omega)
    rw [m6.1, m6.2.1, Nat.zero_mul, Nat.add_zero] at hc0
    rw [m6.2.2.1, m6.2.2.2] at hc1
    have HRL : Hid (R2 X' Y' (L + 1)) := Lib.hid (fun k hk => by
      have := (opB_iff.1 (opA_iff.1 (chE_ok.1 HM.out.1).2 k hk)).1
      omega)
    have he0 : ∀ w, (binOp .neq 26 (.agg #[.int .i64 x0, .int .i64 y0]) (.agg #[.int .i64 x0, .int .i64 y0])).run Try.prog w = .ok (.bool false) w := fun w => by have h := neXY x0 y0 x0 y0 w; simpa using h
    have he1 : ∀ w, (binOp .neq 26 (.agg #[.int .i64 x1, .int .i64 y1]) (.agg #[.int .i64 x1, .int .i64 y1])).run Try.prog w = .ok (.bool false) w := fun w => by have h := neXY x1 y1 x1 y1 w; simpa using h
    have hlt1 : (L : Int) < (L : Int) + 1 := by omega
    have hwL : IntKind.i64.wrap (L : Int) = L := by rw [IntKind.wrap_i64]; omega
    have hlt2 : (0 : Int) < (L : Int) + 1 := by omega
    have hlt0 : (0 : Int) ≤ (L : Int) := by omega
    have hL0 : ((L : Int) + 1 == 0) = false := beq_eq_false_iff_ne.2 (by omega)
    have hL1 : ¬ (L : Int) + 1 = 0 := by omega
    have hcn2 : ((L + 1 : Nat) : Int) - 1 = L := by omega
    have hco : ¬ own < c := by omega
    have hco2 : decide (own < c) = false := decide_eq_false hco
    go_upto_region 8 with fail
    have G0 : Hid (∀ w' : World, Below w5.heap.size w5 w' → XyAt w' b2 o2 x0 y0 ∧ XyAt w' b2 (o2 + L * 2) x1 y1 ∧ w'.heap[b9]? = some (.cells #[.int .i64 x0, .int .i64 y0] 26 (0, 0)) ∧ w'.heap[b10]? = some (.cells #[.int .i64 x1, .int .i64 y1] 26 (0, 0))) := Lib.hid (fun w' hb => ⟨hc0.keep hb, hc1.keep hb, (hb.block _ hz5.2.1).trans K95.out, (hb.block _ hz5.2.2).trans K105.out⟩)
    have D0 : Below w5.heap.size w5 w5.drew := (Below.refl _ _).drew
    clear hc0 hc1 hcell hxs m6 m8
    refine wp_region_held_drew (S := fun w' => XyAt w' b2 o2 x0 y0 ∧ XyAt w' b2 (o2 + L * 2) x1 y1 ∧ w'.heap[b9]? = some (.cells #[.int .i64 x0, .int .i64 y0] 26 (0, 0)) ∧ w'.heap[b10]? = some (.cells #[.int .i64 x1, .int .i64 y1] 26 (0, 0))) (by kernel_rfl) (G0.out _ D0) (fun hHeld => ?_)
    refine wpAnyH_take (i := 0) (oi := _) (v := ?_) rfl (by kernel_rfl) (by kernel_rfl) (by kernel_rfl) (fun _ _ _ h => h) (Or.inl ⟨by rfl, ?_⟩) (by assumption) ?_
    rotate_left
    · intro w hSw; obtain ⟨s0, s1, s2, s3⟩ := hSw; go_simp; (try with_reducible rfl)
    try change wpAnyH _ _ _ _ _ _ _ (Act.put _ (some 64) _) _
    try simp only [act_all]
    refine wpAnyH_take (i := 1) (oi := _) (v := ?_) rfl (by kernel_rfl) (by kernel_rfl) (by kernel_rfl) (fun _ _ _ h => h) (Or.inl ⟨by rfl, ?_⟩) (by assumption) ?_
    rotate_left
    · intro w hSw; obtain ⟨s0, s1, s2, s3⟩ := hSw; go_simp; (try with_reducible rfl)
    try change wpAnyH _ _ _ _ _ _ _ (Act.put _ (some 65) _) _
    try simp only [act_all]
    refine wpAnyH_take (i := 2) (oi := _) (v := ?_) rfl (by kernel_rfl) (by kernel_rfl) (by kernel_rfl) (fun _ _ _ h => h) (Or.inl ⟨by rfl, ?_⟩) (by assumption) ?_
    rotate_left
    · intro w hSw; obtain ⟨s0, s1, s2, s3⟩ := hSw; go_simp; (try with_reducible rfl)
    try change wpAnyH _ _ _ _ _ _ _ (Act.put _ (some 66) _) _
    try simp only [act_all]
    refine wpAnyH_take (i := 3) (oi := _) (v := ?_) rfl (by kernel_rfl) (by kernel_rfl) (by kernel_rfl) (fun _ _ _ h => h) (Or.inl ⟨by rfl, ?_⟩) (by assumption) ?_
    rotate_left
    · intro w hSw; obtain ⟨s0, s1, s2, s3⟩ := hSw; go_simp; (try with_reducible rfl)
    try change wpAnyH _ _ _ _ _ _ _ (Act.put _ (some 67) _) _
    try simp only [act_all]
    refine wpAnyH_take (i := 4) (oi := _) (v := ?_) rfl (by kernel_rfl) (by kernel_rfl) (by kernel_rfl) (fun _ _ _ h => h) (Or.inl ⟨by rfl, ?_⟩) (by assumption) ?_
    rotate_left
    · intro w hSw; obtain ⟨s0, s1, s2, s3⟩ := hSw; go_simp; (try with_reducible rfl)
    try change wpAnyH _ _ _ _ _ _ _ (Act.put _ (some 68) _) _
    try simp only [act_all]
    refine wpAnyH_take (i := 5) (oi := _) (v := ?_) rfl (by kernel_rfl) (by kernel_rfl) (by kernel_rfl) (fun _ _ _ h => h) (Or.inl ⟨by rfl, ?_⟩) (by assumption) ?_
    rotate_left
    · intro w hSw; obtain ⟨s0, s1, s2, s3⟩ := hSw; go_simp; (try with_reducible rfl)
    try change wpAnyH _ _ _ _ _ _ _ (Act.put _ (some 69) _) _
    try simp only [act_all]
    refine wpAnyH_take (i := 6) (oi := _) (v := ?_) rfl (by kernel_rfl) (by kernel_rfl) (by kernel_rfl) (fun _ _ _ h => h) (Or.inl ⟨by rfl, ?_⟩) (by assumption) ?_
    rotate_left
    · intro w hSw; obtain ⟨s0, s1, s2, s3⟩ := hSw; go_simp; (try with_reducible rfl)
    try change wpAnyH _ _ _ _ _ _ _ (Act.put _ (some 70) _) _
    try simp only [act_all]
    refine wpAnyH_take (i := 7) (oi := _) (v := ?_) rfl (by kernel_rfl) (by kernel_rfl) (by kernel_rfl) (fun _ _ _ h => h) (Or.inl ⟨by rfl, ?_⟩) (by assumption) ?_
    rotate_left
    · intro w hSw; obtain ⟨s0, s1, s2, s3⟩ := hSw; go_simp; (try with_reducible rfl)
    try change wpAnyH _ _ _ _ _ _ _ (Act.put _ (some 71) _) _
    try simp only [act_all]
    refine wpAnyH_take (i := 8) (oi := _) (v := ?_) rfl (by kernel_rfl) (by kernel_rfl) (by kernel_rfl) (fun _ _ _ h => h) (Or.inl ⟨by rfl, ?_⟩) (by assumption) ?_
    rotate_left
    · intro w hSw; obtain ⟨s0, s1, s2, s3⟩ := hSw; go_simp; (try with_reducible rfl)
    try change wpAnyH _ _ _ _ _ _ _ (Act.put _ (some 72) _) _
    try simp only [act_all]
    refine wpAnyH_take (i := 9) (oi := _) (v := ?_) rfl (by kernel_rfl) (by kernel_rfl) (by kernel_rfl) (fun _ _ _ h => h) (Or.inl ⟨by rfl, ?_⟩) (by assumption) ?_
    rotate_left
    · intro w hSw; obtain ⟨s0, s1, s2, s3⟩ := hSw; go_simp; (try with_reducible rfl)
    try change wpAnyH _ _ _ _ _ _ _ (Act.put _ (some 73) _) _
    try simp only [act_all]
    refine wpAnyH_take (i := 10) (oi := _) (v := ?_) rfl (by kernel_rfl) (by kernel_rfl) (by kernel_rfl) (fun _ _ _ h => h) (Or.inl ⟨by rfl, ?_⟩) (by assumption) ?_
    rotate_left
    · intro w hSw; obtain ⟨s0, s1, s2, s3⟩ := hSw; go_simp; (try with_reducible rfl)
    try change wpAnyH _ _ _ _ _ _ _ (Act.put _ (some 74) _) _
    try simp only [act_all]
    refine wpAnyH_take (i := 11) (oi := _) (v := ?_) rfl (by kernel_rfl) (by kernel_rfl) (by kernel_rfl) (fun _ _ _ h => h) (Or.inl ⟨by rfl, ?_⟩) (by assumption) ?_
    rotate_left
    · intro w hSw; obtain ⟨s0, s1, s2, s3⟩ := hSw; go_simp; (try with_reducible rfl)
    try change wpAnyH _ _ _ _ _ _ _ (Act.put _ (some 75) _) _
    try simp only [act_all]
    refine wpAnyH_take (i := 12) (oi := _) (v := ?_) rfl (by kernel_rfl) (by kernel_rfl) (by kernel_rfl) (fun _ _ _ h => h) (Or.inl ⟨by rfl, ?_⟩) (by assumption) ?_
    rotate_left
    · intro w hSw; obtain ⟨s0, s1, s2, s3⟩ := hSw; go_simp; (try with_reducible rfl)
    try change wpAnyH _ _ _ _ _ _ _ (Act.put _ (some 76) _) _
    try simp only [act_all]
    refine wpAnyH_take (i := 13) (oi := _) (v := ?_) rfl (by kernel_rfl) (by kernel_rfl) (by kernel_rfl) (fun _ _ _ h => h) (Or.inl ⟨by rfl, ?_⟩) (by assumption) ?_
    rotate_left
    · intro w hSw; obtain ⟨s0, s1, s2, s3⟩ := hSw; go_simp; (try with_reducible rfl)
    try change wpAnyH _ _ _ _ _ _ _ (Act.put _ (some 77) _) _
    try simp only [act_all]
    refine wpAnyH_take (i := 14) (oi := _) (v := ?_) rfl (by kernel_rfl) (by kernel_rfl) (by kernel_rfl) (fun _ _ _ h => h) (Or.inl ⟨by rfl, ?_⟩) (by assumption) ?_
    rotate_left
    · intro w hSw; obtain ⟨s0, s1, s2, s3⟩ := hSw; go_simp; (try with_reducible rfl)
    try change wpAnyH _ _ _ _ _ _ _ (Act.put _ (some 78) _) _
    try simp only [act_all]
    refine wpAnyH_take (i := 15) (oi := _) (v := _) rfl (by kernel_rfl) (by kernel_rfl) (by kernel_rfl) (fun _ _ _ h => h) (yieldsIf_load_mid (by rfl) 26 _ rfl b2 _ rfl ([.int .i64 x0, .int .i64 y0]) _ (fun w' hh => by simpa using range_xy hh.1) Try.underlying26 rfl (by kernel_rfl)) (by assumption) ?_
    try change wpAnyH _ _ _ _ _ _ _ (Act.put _ (some 79) _) _
    try simp only [act_all]
    refine wpAnyH_take (i := 16) (oi := _) (v := _) rfl (by kernel_rfl) (by kernel_rfl) (by kernel_rfl) (fun _ _ _ h => h) (yieldsIf_load_mid (by rfl) 26 _ rfl b9 0 rfl ([.int .i64 x0, .int .i64 y0]) _ (fun w' hh => range_row hh.2.2.1 0 [.int .i64 x0, .int .i64 y0] (fun j hj => by simp only [Nat.zero_add, List.getElem?_toArray])) Try.underlying26 rfl (by kernel_rfl)) (by assumption) ?_
    try change wpAnyH _ _ _ _ _ _ _ (Act.put _ (some 80) _) _
    try simp only [act_all]
    refine wpAnyH_take (i := 17) (oi := _) (v := ?_) rfl (by kernel_rfl) (by kernel_rfl) (by kernel_rfl) (fun _ _ _ h => h) (Or.inl ⟨by rfl, ?_⟩) (by assumption) ?_
    rotate_left
    · intro w hSw; obtain ⟨s0, s1, s2, s3⟩ := hSw; go_simp; (try with_reducible rfl)
    try change wpAnyH _ _ _ _ _ _ _ (Act.put _ (some 81) _) _
    try simp only [act_all]
    refine wpAnyH_take (i := 18) (oi := _) (v := ?_) rfl (by kernel_rfl) (by kernel_rfl) (by kernel_rfl) (fun _ _ _ h => h) (Or.inl ⟨by rfl, ?_⟩) (by assumption) ?_
    rotate_left
    · intro w hSw; obtain ⟨s0, s1, s2, s3⟩ := hSw; go_simp; (try with_reducible rfl)
    try change wpAnyH _ _ _ _ _ _ _ (Act.put _ (some 82) _) _
    try simp only [act_all]
    refine wpAnyH_take (i := 19) (oi := _) (v := ?_) rfl (by kernel_rfl) (by kernel_rfl) (by kernel_rfl) (fun _ _ _ h => h) (Or.inl ⟨by rfl, ?_⟩) (by assumption) ?_
    rotate_left
    · intro w hSw; obtain ⟨s0, s1, s2, s3⟩ := hSw; go_simp; (try with_reducible rfl)
    try change wpAnyH _ _ _ _ _ _ _ (Act.put _ (some 83) _) _
    try simp only [act_all]
    refine wpAnyH_take (i := 20) (oi := _) (v := ?_) rfl (by kernel_rfl) (by kernel_rfl) (by kernel_rfl) (fun _ _ _ h => h) (Or.inl ⟨by rfl, ?_⟩) (by assumption) ?_
    rotate_left
    · intro w hSw; obtain ⟨s0, s1, s2, s3⟩ := hSw; go_simp; (try with_reducible rfl)
    try change wpAnyH _ _ _ _ _ _ _ (Act.put _ (some 84) _) _
    try simp only [act_all]
    refine wpAnyH_take (i := 21) (oi := _) (v := ?_) rfl (by kernel_rfl) (by kernel_rfl) (by kernel_rfl) (fun _ _ _ h => h) (Or.inl ⟨by rfl, ?_⟩) (by assumption) ?_
    rotate_left
    · intro w hSw; obtain ⟨s0, s1, s2, s3⟩ := hSw; go_simp; (try with_reducible rfl)
    try change wpAnyH _ _ _ _ _ _ _ (Act.put _ (some 85) _) _
    try simp only [act_all]
    refine wpAnyH_take (i := 22) (oi := _) (v := ?_) rfl (by kernel_rfl) (by kernel_rfl) (by kernel_rfl) (fun _ _ _ h => h) (Or.inl ⟨by rfl, ?_⟩) (by assumption) ?_
    rotate_left
    · intro w hSw; obtain ⟨s0, s1, s2, s3⟩ := hSw; go_simp; (try with_reducible rfl)
    try change wpAnyH _ _ _ _ _ _ _ (Act.put _ (some 86) _) _
    try simp only [act_all]
    refine wpAnyH_take (i := 23) (oi := _) (v := ?_) rfl (by kernel_rfl) (by kernel_rfl) (by kernel_rfl) (fun _ _ _ h => h) (Or.inl ⟨by rfl, ?_⟩) (by assumption) ?_
    rotate_left
    · intro w hSw; obtain ⟨s0, s1, s2, s3⟩ := hSw; go_simp; (try with_reducible rfl)
    try change wpAnyH _ _ _ _ _ _ _ (Act.put _ (some 87) _) _
    try simp only [act_all]
    refine wpAnyH_take (i := 24) (oi := _) (v := ?_) rfl (by kernel_rfl) (by kernel_rfl) (by kernel_rfl) (fun _ _ _ h => h) (Or.inl ⟨by rfl, ?_⟩) (by assumption) ?_
    rotate_left
    · intro w hSw; obtain ⟨s0, s1, s2, s3⟩ := hSw; go_simp; (try with_reducible rfl)
    try change wpAnyH _ _ _ _ _ _ _ (Act.put _ (some 88) _) _
    try simp only [act_all]
    refine wpAnyH_take (i := 25) (oi := _) (v := _) rfl (by kernel_rfl) (by kernel_rfl) (by kernel_rfl) (fun _ _ _ h => h) (yieldsIf_load_mid (by rfl) 26 _ rfl b2 _ rfl ([.int .i64 x1, .int .i64 y1]) _ (fun w' hh => by simpa using range_xy hh.2.1) Try.underlying26 rfl (by kernel_rfl)) (by assumption) ?_
    try change wpAnyH _ _ _ _ _ _ _ (Act.put _ (some 89) _) _
    try simp only [act_all]
    refine wpAnyH_take (i := 26) (oi := _) (v := _) rfl (by kernel_rfl) (by kernel_rfl) (by kernel_rfl) (fun _ _ _ h => h) (yieldsIf_load_mid (by rfl) 26 _ rfl b10 0 rfl ([.int .i64 x1, .int .i64 y1]) _ (fun w' hh => range_row hh.2.2.2 0 [.int .i64 x1, .int .i64 y1] (fun j hj => by simp only [Nat.zero_add, List.getElem?_toArray])) Try.underlying26 rfl (by kernel_rfl)) (by assumption) ?_
    try change wpAnyH _ _ _ _ _ _ _ (Act.put _ (some 90) _) _
    try simp only [act_all]
    refine wpAnyH_take (i := 27) (oi := _) (v := ?_) rfl (by kernel_rfl) (by kernel_rfl) (by kernel_rfl) (fun _ _ _ h => h) (Or.inl ⟨by rfl, ?_⟩) (by assumption) ?_
    rotate_left
    · intro w hSw; obtain ⟨s0, s1, s2, s3⟩ := hSw; go_simp; (try with_reducible rfl)
    try change wpAnyH _ _ _ _ _ _ _ (Act.put _ (some 91) _) _
    try simp only [act_all]
    refine wpAnyH_take (i := 28) (oi := _) (v := ?_) rfl (by kernel_rfl) (by kernel_rfl) (by kernel_rfl) (fun _ _ _ h => h) (Or.inl ⟨by rfl, ?_⟩) (by assumption) ?_
    rotate_left
    · intro w hSw; obtain ⟨s0, s1, s2, s3⟩ := hSw; go_simp; (try with_reducible rfl)
    try change wpAnyH _ _ _ _ _ _ _ (Act.put _ (some 92) _) _
    try simp only [act_all]
    refine wpAnyH_done (by kernel_rfl) ?_ _
    clear hHeld G0
    have HBD : Hid (Below w.heap.size w w5.drew) := Lib.hid HB5.out.drew
    have K9D : Hid (w5.drew.heap[b9]? = some (.cells #[.int .i64 x0, .int .i64 y0] 26 (0, 0))) := Lib.hid K95.out
    have K10D : Hid (w5.drew.heap[b10]? = some (.cells #[.int .i64 x1, .int .i64 y1] 26 (0, 0))) := Lib.hid K105.out
    have KGD : Hid (G5 w5.drew w.heap.size W H M B ao nb cb) := Lib.hid KG5.out
    have HXRD : Hid (XYs w5.drew (some ⟨b2, o2, none⟩) (L + 1) X' Y') := Lib.hid HXR.out
    have hzD : w.heap.size < w5.drew.heap.size ∧ b9 < w5.drew.heap.size ∧ b10 < w5.drew.heap.size := hz5
    clear HB5 K95 K105 KG5 HXR hz5 D0
    generalize w5.drew = wD at *
    obtain ⟨p0, p1⟩ : wD.cell? ⟨b9, 0, none⟩ = some (.int .i64 x0) ∧ wD.cell? ⟨b9, 1, none⟩ = some (.int .i64 y0) := ⟨cell_of_blk K9D.out rfl, cell_of_blk K9D.out rfl⟩
    obtain ⟨q0, q1⟩ : wD.cell? ⟨b10, 0, none⟩ = some (.int .i64 x1) ∧ wD.cell? ⟨b10, 1, none⟩ = some (.int .i64 y1) := ⟨cell_of_blk K10D.out rfl, cell_of_blk K10D.out rfl⟩
    obtain ⟨g0, g1, g2, g3, g4⟩ := G5.c KGD.out
    go_wp2_with fail
    refine (pCost_ok W H M B nb cb ao XB YB (L + 1) cl _ X' Y' _ HV.out HM.out.1 hn (HC.out.keep HBD.out) (by omega) HXRD.out HRL.out).mono ?_
    rw [show L + 1 - 1 = L by omega, HM.out.2.1]
    rintro e w6 ⟨rfl, hb⟩
    have HB6 : Hid (Below w.heap.size w w6) := Lib.hid (HBD.out.trans (hb.mono HBD.out.size))
    have K96 : Hid (w6.heap[b9]? = some (.cells #[.int .i64 x0, .int .i64 y0] 26 (0, 0))) := Lib.hid ((hb.block _ hzD.2.1).trans K9D.out)
    have K106 : Hid (w6.heap[b10]? = some (.cells #[.int .i64 x1, .int .i64 y1] 26 (0, 0))) := Lib.hid ((hb.block _ hzD.2.2).trans K10D.out)
    have KG6 : Hid (G5 w6 w.heap.size W H M B ao nb cb) := Lib.hid ((hb.block _ hzD.1).trans KGD.out)
    have hz6 : w.heap.size < w6.heap.size ∧ b9 < w6.heap.size ∧ b10 < w6.heap.size := by have := hb.size; omega
    clear hb g0 g1 g2 g3 g4 p0 p1 q0 q1 HBD K9D K10D KGD hzD HXRD HRL
    obtain ⟨p0, p1⟩ : w6.cell? ⟨b9, 0, none⟩ = some (.int .i64 x0) ∧ w6.cell? ⟨b9, 1, none⟩ = some (.int .i64 y0) := ⟨cell_of_blk K96.out rfl, cell_of_blk K96.out rfl⟩
    obtain ⟨q0, q1⟩ : w6.cell? ⟨b10, 0, none⟩ = some (.int .i64 x1) ∧ w6.cell? ⟨b10, 1, none⟩ = some (.int .i64 y1) := ⟨cell_of_blk K106.out rfl, cell_of_blk K106.out rfl⟩
    obtain ⟨g0, g1, g2, g3, g4⟩ := G5.c KG6.out
    go_wp2_with fail
    refine (pFar_ok W H M B x1 y1 nb cb N ao XB YB _ (HC.out.keep HB6.out) HV.out HOP2.out.2 HNW.out.1).mono ?_
    rintro e w7 ⟨v, F2, rfl, hF2, hrow, hb⟩
    have hFF := hF2.1.uniq HF.out.1
    rw [hFF] at hrow
    obtain ⟨af, cf, rfl, hI⟩ := own_ints hrow
    have HB7 : Hid (Below w.heap.size w w7) := Lib.hid (HB6.out.trans (hb.mono HB6.out.size))
    have K97 : Hid (w7.heap[b9]? = some (.cells #[.int .i64 x0, .int .i64 y0] 26 (0, 0))) := Lib.hid ((hb.block _ hz6.2.1).trans K96.out)
    have K107 : Hid (w7.heap[b10]? = some (.cells #[.int .i64 x1, .int .i64 y1] 26 (0, 0))) := Lib.hid ((hb.block _ hz6.2.2).trans K106.out)
    have KG7 : Hid (G5 w7 w.heap.size W H M B ao nb cb) := Lib.hid ((hb.block _ hz6.1).trans KG6.out)
    have hz7 : w.heap.size < w7.heap.size ∧ b9 < w7.heap.size ∧ b10 < w7.heap.size := by have := hb.size; omega
    have HI7 := Lib.hid hI
    clear hb g0 g1 g2 g3 g4 p0 p1 q0 q1 HB6 K96 K106 KG6 hz6 hrow hF2 hFF hI HF
    obtain ⟨p0, p1⟩ : w7.cell? ⟨b9, 0, none⟩ = some (.int .i64 x0) ∧ w7.cell? ⟨b9, 1, none⟩ = some (.int .i64 y0) := ⟨cell_of_blk K97.out rfl, cell_of_blk K97.out rfl⟩
    obtain ⟨q0, q1⟩ : w7.cell? ⟨b10, 0, none⟩ = some (.int .i64 x1) ∧ w7.cell? ⟨b10, 1, none⟩ = some (.int .i64 y1) := ⟨cell_of_blk K107.out rfl, cell_of_blk K107.out rfl⟩
    obtain ⟨g0, g1, g2, g3, g4⟩ := G5.c KG7.out
    go_wp2_with fail
    refine (pFar_ok W H M B x0 y0 nb cb N ao XB YB _ (HC.out.keep HB7.out) HV.out HOP2.out.1 HNW.out.1).mono ?_
    rintro e w8 ⟨v, G, rfl, hG, hrow, hb⟩
    obtain ⟨ag, cg, rfl, hJ⟩ := own_ints hrow
    have hgc := HM.out.2.2.2 G hG
    have HB8 : Hid (Below w.heap.size w w8) := Lib.hid (HB7.out.trans (hb.mono HB7.out.size))
    have K98 : Hid (w8.heap[b9]? = some (.cells #[.int .i64 x0, .int .i64 y0] 26 (0, 0))) := Lib.hid ((hb.block _ hz7.2.1).trans K97.out)
    have K108 : Hid (w8.heap[b10]? = some (.cells #[.int .i64 x1, .int .i64 y1] 26 (0, 0))) := Lib.hid ((hb.block _ hz7.2.2).trans K107.out)
    have KG8 : Hid (G5 w8 w.heap.size W H M B ao nb cb) := Lib.hid ((hb.block _ hz7.1).trans KG7.out)
    have hz8 : w.heap.size < w8.heap.size ∧ b9 < w8.heap.size ∧ b10 < w8.heap.size := by have := hb.size; omega
    have HI8 := Lib.hid (HI7.out.keep hb)
    have HJ8 := Lib.hid hJ
    clear hb g0 g1 g2 g3 g4 p0 p1 q0 q1 HB7 K97 K107 KG7 hz7 hrow hG hJ HI7
    obtain ⟨j0, hj0⟩ : ∃ j : Nat, y0 * W + x0 = j := ⟨(y0 * W + x0).toNat, by have := Int.mul_nonneg hon0.2.2.1 (show 0 ≤ W by omega); omega⟩
    obtain ⟨j1, hj1⟩ : ∃ j : Nat, y1 * W + x1 = j := ⟨(y1 * W + x1).toNat, by have := Int.mul_nonneg hon1.2.2.1 (show 0 ≤ W by omega); omega⟩
    have hd0 : j0 < N ∧ ((j0 % W.toNat : Nat) : Int) = x0 ∧ ((j0 / W.toNat : Nat) : Int) = y0 := by
      obtain ⟨_, e2, e3, e4⟩ := HNW.out
      obtain ⟨xa, hxa⟩ : ∃ k : Nat, x0 = k := ⟨x0.toNat, by omega⟩
      obtain ⟨ya, hya⟩ : ∃ k : Nat, y0 = k := ⟨y0.toNat, by omega⟩
      have hj : j0 = ya * Wn + xa := by have h := hj0; rw [e3, hxa, hya, ← Int.natCast_mul, ← Int.natCast_add] at h; exact (Int.ofNat.inj h).symm
      obtain ⟨d1, d2, d3⟩ := idx_dm2 (x := xa) (y := ya) e2 (by omega) (by omega)
      rw [show W.toNat = Wn by omega, hj, d2, d3]
      exact ⟨d1, hxa.symm, hya.symm⟩
    have hd1 : j1 < N ∧ ((j1 % W.toNat : Nat) : Int) = x1 ∧ ((j1 / W.toNat : Nat) : Int) = y1 := by
      obtain ⟨_, e2, e3, e4⟩ := HNW.out
      obtain ⟨xa, hxa⟩ : ∃ k : Nat, x1 = k := ⟨x1.toNat, by omega⟩
      obtain ⟨ya, hya⟩ : ∃ k : Nat, y1 = k := ⟨y1.toNat, by omega⟩
      have hj : j1 = ya * Wn + xa := by have h := hj1; rw [e3, hxa, hya, ← Int.natCast_mul, ← Int.natCast_add] at h; exact (Int.ofNat.inj h).symm
      obtain ⟨d1, d2, d3⟩ := idx_dm2 (x := xa) (y := ya) e2 (by omega) (by omega)
      rw [show W.toNat = Wn by omega, hj, d2, d3]
      exact ⟨d1, hxa.symm, hya.symm⟩
    obtain ⟨bi, oi, rfl, hci⟩ := HI8.out (by omega)
    obtain ⟨bj, oj, rfl, hcj⟩ := HJ8.out (by omega)
    have t0 := hci j0 hd0.1
    have t1 := hcj j1 hd1.1
    simp only [hd0.2.1, hd0.2.2, HM.out.2.2.1] at t0
    simp only [hd1.2.1, hd1.2.2, hgc] at t1
    have hwhN : W * H = (N : Int) := HNW.out.1.symm
    have z1 : IntKind.i64.wrap (N : Int) = N := by rw [IntKind.wrap_i64]; omega
    have hm0 : 0 ≤ y0 * W := Int.mul_nonneg hon0.2.2.1 (by omega)
    have hm1 : 0 ≤ y1 * W := Int.mul_nonneg hon1.2.2.1 (by omega)
    have z2 : IntKind.i64.wrap (y0 * W) = y0 * W := by rw [IntKind.wrap_i64]; omega
    have z3 : IntKind.i64.wrap (y1 * W) = y1 * W := by rw [IntKind.wrap_i64]; omega
    have z4 : IntKind.i64.wrap (j0 : Int) = j0 := by rw [IntKind.wrap_i64]; omega
    have z5 : IntKind.i64.wrap (j1 : Int) = j1 := by rw [IntKind.wrap_i64]; omega
    have z6 : (j0 : Int) < (N : Int) := by omega
    have z7 : (j1 : Int) < (N : Int) := by omega
    have z8 : j0 < N := hd0.1
    have z9 : j1 < N := hd1.1
    clear hci hcj hd0 hd1 hgc hm0 hm1
    obtain ⟨p0, p1⟩ : w8.cell? ⟨b9, 0, none⟩ = some (.int .i64 x0) ∧ w8.cell? ⟨b9, 1, none⟩ = some (.int .i64 y0) := ⟨cell_of_blk K98.out rfl, cell_of_blk K98.out rfl⟩
    obtain ⟨q0, q1⟩ : w8.cell? ⟨b10, 0, none⟩ = some (.int .i64 x1) ∧ w8.cell? ⟨b10, 1, none⟩ = some (.int .i64 y1) := ⟨cell_of_blk K108.out rfl, cell_of_blk K108.out rfl⟩
    obtain ⟨g0, g1, g2, g3, g4⟩ := G5.c KG8.out
    go_wp2_with fail
    refine (lawake_any _).mono ?_
    rintro e w9 ⟨rfl, hb⟩
    have HB9 : Hid (Below w.heap.size w w9) := Lib.hid (HB8.out.trans (hb.mono HB8.out.size))
    clear hb g0 g1 g2 g3 g4 p0 p1 q0 q1 HB8 K98 K108 KG8 hz8 t0 t1
    go_wp2_with fail
    refine bodyPost_ret (v := .bool true) (by simp [results, Try.results8, go_sem]) rfl ⟨rfl, HB9.out⟩
theorem LayoutCheapest_any (W H M B : Int) (nb cb n cp : Nat) (ao ap : Option Addr) (XB YB X Y : Nat → Int) (w : World) (hn : nb ≤ 9223372036854775807) (hc : XYs w ao nb XB YB) (hp : XYs w ap n X Y) (hr : R2 X Y n) (hcp : n ≤ cp) :
    Calls Try.prog 8 #[.agg #[.int .i64 W, .int .i64 H, .int .i64 M, .int .i64 B, .slice ao nb cb], .slice ap n cp] w fun e w' => e = .returned (.bool true) ∧ Below w.heap.size w w' := by
  cases hs : smG W H M B nb XB YB with
  | false => exact cheap_big W H M B nb cb n cp ao ap XB YB X Y w hs hn hc
  | true =>
    by_cases h3 : 300 < n
    · exact cheap_long W H M B nb cb n cp ao ap XB YB X Y w hs h3 hn hc
    by_cases hv : vaG W H M B nb XB YB = true
    case neg => exact cheap_err W H M B nb cb n cp ao ap XB YB X Y w hs (by omega) 70 (by unfold rdE; rw [if_neg hv]) (by decide) hcp hp hr hn hc
    by_cases he : chE W H (blkN XB YB nb) X Y n = 0
    case neg => exact cheap_err W H M B nb cb n cp ao ap XB YB X Y w hs (by omega) _ (by unfold rdE; rw [if_pos hv, if_pos (by omega)]) he hcp hp hr hn hc
    obtain ⟨⟨h1, _⟩, _⟩ := paB_iff.1 (chE_ok.1 he).1
    exact cheap_ok W H M B nb cb n cp ao ap XB YB X Y w (n - 1) (by omega) hs hv (by omega) he hcp hp hr hn hc
end Go.Proofs.Ytkkcnhhfdicppaa
