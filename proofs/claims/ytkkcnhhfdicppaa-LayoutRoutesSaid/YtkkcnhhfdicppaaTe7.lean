import Derived.Test.YtkkcnhhfdicppaaTd7
import Derived.Test.YtkkcnhhfdicppaaFa7
namespace Lay
theorem far_least {F : Int → Int → Int → Option Int} {B p q x y mv : Int} (h8 : ∀ x y d v, F x y d = some v → v ≤ 8000000) (hm : mv = if x = p ∧ y = q then 0 else if (chp F B x y (-1)).1 = -1 then Nn else (chp F B x y (-1)).2) :
    (1099511627776 ≤ mv → farS F B p q x y = -1) ∧ (¬ 1099511627776 ≤ mv → farS F B p q x y = mv) := by
  unfold farS
  by_cases ht : x = p ∧ y = q
  · rw [if_pos ht] at hm ⊢; omega
  rw [if_neg ht] at hm ⊢
  by_cases hn : (chp F B x y (-1)).1 = -1
  · rw [if_pos hn] at hm ⊢
    unfold Nn at hm
    omega
  rw [if_neg hn] at hm ⊢
  obtain ⟨_, hf, _⟩ := chp_is hn
  rw [bd_nil, Int.sub_zero] at hf
  have := h8 _ _ _ _ hf
  rw [hf]
  show (_ → (chp F B x y (-1)).2 = -1) ∧ (_ → (chp F B x y (-1)).2 = mv)
  omega
end Lay
namespace Go.Proofs.Ytkkcnhhfdicppaa
open Go.RowKit Lay
set_option maxRecDepth 100000 in
set_option maxHeartbeats 4000000 in
theorem rFar_grid (W H M B tx ty : Int) (nb cb : Nat) (ao : Option Addr) (XB YB : Nat → Int) (w : World) (hn : nb ≤ 9223372036854775807) (hc : XYs w ao nb XB YB) (hv : vaG W H M B nb XB YB = false) :
    Calls Try.prog 26 #[.agg #[.int .i64 W, .int .i64 H, .int .i64 M, .int .i64 B, .slice ao nb cb], .agg #[.int .i64 tx, .int .i64 ty]] w fun e w' => e = .returned (.tuple #[.slice none 0 0, .int .i64 70]) ∧ Below w.heap.size w w' := by
  have HC := Lib.hid hc
  have HV := Lib.hid hv
  clear hc hv
  go_enter Try.func26, Try.ntmps26
  go_wp2_with fail
  refine (rValid_any W H M B nb cb ao XB YB _ hn (HC.out.keep (by go_grown))).mono ?_
  rw [HV.out]
  rintro e w1 ⟨rfl, hb⟩
  have HB1 : Hid (Below w.heap.size w w1) := Lib.hid (Below.trans (by go_grown) (hb.mono (by simp; omega)))
  clear hb
  go_wp2_with fail
  refine bodyPost_ret (v := .tuple #[.slice none 0 0, .int .i64 70]) (by simp [results, Try.results26, go_sem]) rfl ⟨rfl, HB1.out⟩
set_option maxRecDepth 100000 in
set_option maxHeartbeats 4000000 in
theorem rFar_block (W H M B tx ty : Int) (nb cb : Nat) (ao : Option Addr) (XB YB : Nat → Int) (w : World) (hc : XYs w ao nb XB YB) (hv : vaG W H M B nb XB YB = true) (hot : opB W H (blkN XB YB nb) tx ty = false) :
    Calls Try.prog 26 #[.agg #[.int .i64 W, .int .i64 H, .int .i64 M, .int .i64 B, .slice ao nb cb], .agg #[.int .i64 tx, .int .i64 ty]] w fun e w' => e = .returned (.tuple #[.slice none 0 0, .int .i64 72]) ∧ Below w.heap.size w w' := by
  have HC := Lib.hid hc
  have HV := Lib.hid hv
  have HOT := Lib.hid hot
  obtain ⟨hnum, _⟩ := vaG_num hv
  have hn63 : nb ≤ 9223372036854775807 := by omega
  clear hc hv hot
  go_enter Try.func26, Try.ntmps26
  go_wp2_with fail
  refine (rValid_any W H M B nb cb ao XB YB _ hn63 (HC.out.keep (by go_grown))).mono ?_
  rw [HV.out]
  rintro e w1 ⟨rfl, hb⟩
  obtain ⟨bG, hbG⟩ : ∃ b, b = w.heap.size := ⟨_, rfl⟩
  obtain ⟨bt, hbt⟩ : ∃ b, b = w.heap.size + 1 := ⟨_, rfl⟩
  have hz1 : bt < w1.heap.size := by have h9 := hb.size; simp at h9; omega
  have KG1 : Hid (G5 w1 bG W H M B ao nb cb) := Lib.hid ((hb.block _ (by simp; omega)).trans (by rw [hbG]; exact (Below.heap_alloc _ _ _ (by simp)).trans (heap_alloc_new w _)))
  have KT1 : Hid (w1.heap[bt]? = some (.cells #[.int .i64 tx, .int .i64 ty] 26 (0, 0))) := Lib.hid ((hb.block _ (by simp; omega)).trans (by rw [hbt]; have h := heap_alloc_new (w.alloc (.cells #[.int .i64 W, .int .i64 H, .int .i64 M, .int .i64 B, .slice ao nb cb] 24)) (.cells #[.int .i64 tx, .int .i64 ty] 26); rwa [World.size_alloc] at h))
  have HB1 : Hid (Below w.heap.size w w1) := Lib.hid (Below.trans (by go_grown) (hb.mono (by simp; omega)))
  have hGt : w.heap.size ≤ bG ∧ bG < bt := by omega
  have HXS := Lib.hid (And.intro hbG hbt)
  clear hb hbG hbt
  obtain ⟨g0, g1, g2, g3, g4⟩ := G5.c KG1.out
  obtain ⟨p0, p1⟩ : w1.cell? ⟨bt, 0, none⟩ = some (.int .i64 tx) ∧ w1.cell? ⟨bt, 1, none⟩ = some (.int .i64 ty) := ⟨cell_of_blk KT1.out rfl, cell_of_blk KT1.out rfl⟩
  go_upto_region 3 with fail
  try rw [← HXS.out.2]
  try rw [← HXS.out.1]
  clear HXS
  go_wp2_with fail
  refine (rOpen_any W H M B tx ty nb cb ao XB YB _ hn63 (HC.out.keep HB1.out)).mono ?_
  rw [HOT.out]
  rintro e w2 ⟨rfl, hb⟩
  have HB2 : Hid (Below w.heap.size w w2) := Lib.hid (HB1.out.trans (hb.mono HB1.out.size))
  clear hb
  go_wp2_with fail
  refine bodyPost_ret (v := .tuple #[.slice none 0 0, .int .i64 72]) (by simp [results, Try.results26, go_sem]) rfl ⟨rfl, HB2.out⟩
set_option maxRecDepth 100000 in
set_option maxHeartbeats 16000000 in
theorem rFar_ok (W H M B tx ty : Int) (nb cb : Nat) (ao : Option Addr) (XB YB : Nat → Int) (w : World) (Wn Hn N : Nat) (F : Int → Int → Int → Option Int) (hc : XYs w ao nb XB YB) (hv : vaG W H M B nb XB YB = true) (hot : opB W H (blkN XB YB nb) tx ty = true) (hW : W = Wn) (hH : H = Hn) (hN : N = Hn * Wn) (hF : Costs W H (blkN XB YB nb) M B tx ty F) :
    Calls Try.prog 26 #[.agg #[.int .i64 W, .int .i64 H, .int .i64 M, .int .i64 B, .slice ao nb cb], .agg #[.int .i64 tx, .int .i64 ty]] w fun e w' => ∃ v, e = .returned (.tuple #[v, .int .i64 0]) ∧ w'.ownsRow w.heap.size 3 1 v N (intC (fun j => farS F B tx ty (j % Wn : Nat) (j / Wn : Nat)) N) ∧ Below w.heap.size w w' := by
  obtain ⟨i0, hi, hi0, hi1, hi2⟩ := info_parts int_info
  have HI := Lib.hid (And.intro hi (And.intro hi0 (And.intro hi1 hi2)))
  have HF := Lib.hid hF
  have HNW := Lib.hid (And.intro hW (And.intro hH hN))
  have hN9 : N ≤ 900 := by rw [hN]; exact Nat.le_trans (Nat.mul_le_mul (show Hn ≤ 30 by have := (vaG_num hv).1; omega) (show Wn ≤ 30 by have := (vaG_num hv).1; omega)) (by decide)
  have hWn0 : 0 < Wn := by have := (vaG_num hv).1; omega
  clear hi hi0 hi1 hi2 hF hW hH hN
  have HC := Lib.hid hc
  have HV := Lib.hid hv
  have HOT := Lib.hid hot
  obtain ⟨hnum, _⟩ := vaG_num hv
  have hn63 : nb ≤ 9223372036854775807 := by omega
  clear hc hv hot
  go_enter Try.func26, Try.ntmps26
  go_wp2_with fail
  refine (rValid_any W H M B nb cb ao XB YB _ hn63 (HC.out.keep (by go_grown))).mono ?_
  rw [HV.out]
  rintro e w1 ⟨rfl, hb⟩
  obtain ⟨bG, hbG⟩ : ∃ b, b = w.heap.size := ⟨_, rfl⟩
  obtain ⟨bt, hbt⟩ : ∃ b, b = w.heap.size + 1 := ⟨_, rfl⟩
  have hz1 : bt < w1.heap.size := by have h9 := hb.size; simp at h9; omega
  have KG1 : Hid (G5 w1 bG W H M B ao nb cb) := Lib.hid ((hb.block _ (by simp; omega)).trans (by rw [hbG]; exact (Below.heap_alloc _ _ _ (by simp)).trans (heap_alloc_new w _)))
  have KT1 : Hid (w1.heap[bt]? = some (.cells #[.int .i64 tx, .int .i64 ty] 26 (0, 0))) := Lib.hid ((hb.block _ (by simp; omega)).trans (by rw [hbt]; have h := heap_alloc_new (w.alloc (.cells #[.int .i64 W, .int .i64 H, .int .i64 M, .int .i64 B, .slice ao nb cb] 24)) (.cells #[.int .i64 tx, .int .i64 ty] 26); rwa [World.size_alloc] at h))
  have HB1 : Hid (Below w.heap.size w w1) := Lib.hid (Below.trans (by go_grown) (hb.mono (by simp; omega)))
  have hGt : w.heap.size ≤ bG ∧ bG < bt := by omega
  have HXS := Lib.hid (And.intro hbG hbt)
  clear hb hbG hbt
  obtain ⟨g0, g1, g2, g3, g4⟩ := G5.c KG1.out
  obtain ⟨p0, p1⟩ : w1.cell? ⟨bt, 0, none⟩ = some (.int .i64 tx) ∧ w1.cell? ⟨bt, 1, none⟩ = some (.int .i64 ty) := ⟨cell_of_blk KT1.out rfl, cell_of_blk KT1.out rfl⟩
  go_upto_region 3 with fail
  try rw [← HXS.out.2]
  try rw [← HXS.out.1]
  clear HXS
  go_wp2_with fail
  refine (rOpen_any W H M B tx ty nb cb ao XB YB _ hn63 (HC.out.keep HB1.out)).mono ?_
  rw [HOT.out]
  rintro e w2 ⟨rfl, hb⟩
  have HB2 : Hid (Below w.heap.size w w2) := Lib.hid (HB1.out.trans (hb.mono HB1.out.size))
  have KG2 : Hid (G5 w2 bG W H M B ao nb cb) := Lib.hid ((hb.block _ (by omega)).trans KG1.out)
  have KT2 : Hid (w2.heap[bt]? = some (.cells #[.int .i64 tx, .int .i64 ty] 26 (0, 0))) := Lib.hid ((hb.block _ (by omega)).trans KT1.out)
  have hz2 : bt < w2.heap.size := by have := hb.size; omega
  clear hb g0 g1 g2 g3 g4 p0 p1 KG1 KT1 HB1 hz1
  obtain ⟨g0, g1, g2, g3, g4⟩ := G5.c KG2.out
  obtain ⟨p0, p1⟩ : w2.cell? ⟨bt, 0, none⟩ = some (.int .i64 tx) ∧ w2.cell? ⟨bt, 1, none⟩ = some (.int .i64 ty) := ⟨cell_of_blk KT2.out rfl, cell_of_blk KT2.out rfl⟩
  go_wp2_with fail
  refine (table_any W H M B tx ty nb cb Wn Hn N ao XB YB _ (HC.out.keep HB2.out) HV.out HOT.out HNW.out.1 HNW.out.2.1 HNW.out.2.2).mono ?_
  rintro e w3 ⟨bT, T, rfl, hT, hfin, hbT, hb⟩
  have KG3 : Hid (G5 w3 bG W H M B ao nb cb) := Lib.hid ((hb.block _ (by omega)).trans KG2.out)
  have HT3 := Lib.hid hT
  have HB3 : Hid (Below w.heap.size w w3) := Lib.hid (HB2.out.trans (hb.mono HB2.out.size))
  have hz3 : bG < w3.heap.size ∧ bT < w3.heap.size := ⟨by have := hb.size; omega, hT.lt⟩
  have HSP : Hid (∀ i c : Nat, i < N → c < 4 → T (i * 4 + c) = tS F B tx ty (i % Wn : Nat) (i / Wn : Nat) c) := Lib.hid (fun i c hi hc => hfin.spec HNW.out.2.2 (fun x y ho => by
    have h := (opB_iff.1 ho).1
    rw [HNW.out.1, HNW.out.2.1] at h
    omega) HOT.out HF.out.1 HF.out.2 (by omega) hi hc)
  obtain ⟨bo, hbo⟩ : ∃ z, z = w3.heap.size := ⟨_, rfl⟩
  clear hb g0 g1 g2 g3 g4 p0 p1 KG2 KT2 HB2 hz2 hT hfin
  go_wp2_with fail
  go_loopg [7, 22] N (fun gg v7 v22 wr => ∃ k : Nat, v22 = .int .i64 k ∧ k ≤ N ∧ Hid (N - k ≤ gg) ∧ Hid (wr.ownsRow bo 3 1 v7 k (intC (fun j => farS F B tx ty (j % Wn : Nat) (j / Wn : Nat)) k)) ∧ Hid (TBk wr bT (N * 4) T) ∧ Hid (G5 wr bG W H M B ao nb cb) ∧ Hid (Below w.heap.size w wr) ∧ bo ≤ wr.heap.size)
  case atStart => exact ⟨0, rfl, Nat.zero_le _, Lib.hid (by omega), Lib.hid (World.ownsRow_nil _ _ _ _), HT3, KG3, HB3, by omega⟩
  case round =>
    obtain ⟨k, rfl, hk, HG, HO, HT, KG, HB, hz⟩ := hrel
    clear HT3 KG3 HB3
    by_cases hlt : k < N
    case neg =>
      obtain rfl : k = N := by omega
      have HR := Lib.hid (ownsRow_base HO.out (show w.heap.size ≤ bo by omega))
      go_wp2_with fail
      refine bodyPost_ret (v := .tuple #[u7, .int .i64 0]) (by simp [results, Try.results26, go_sem, *]) rfl ⟨u7, rfl, HR.out, HB.out⟩
    have HGG : Hid (N - k ≤ gk) := Lib.hid HG.out
    clear HG
    obtain ⟨x, hx⟩ : ∃ z : Int, ((k % Wn : Nat) : Int) = z := ⟨_, rfl⟩
    obtain ⟨y, hy⟩ : ∃ z : Int, ((k / Wn : Nat) : Int) = z := ⟨_, rfl⟩
    have HXY : Hid (((k % Wn : Nat) : Int) = x ∧ ((k / Wn : Nat) : Int) = y) := Lib.hid ⟨hx, hy⟩
    have hxr : 0 ≤ x ∧ x < 30 := by
      have h1 := Nat.mod_lt k hWn0
      have h2 := HNW.out.1
      generalize k % Wn = q at h1 hx
      omega
    have hyr : 0 ≤ y ∧ y < 30 := by
      have h1 : k / Wn < Hn := Nat.div_lt_of_lt_mul (by rw [Nat.mul_comm, ← HNW.out.2.2]; exact hlt)
      have h2 := HNW.out.2.1
      generalize k / Wn = q at h1 hy
      omega
    have m1 : ((k : Int)).tmod W = x := by rw [Int.tmod_eq_emod_of_nonneg (Int.natCast_nonneg _), HNW.out.1, ← hx]; push_cast; rfl
    have m2 : IntKind.i64.wrap ((k : Int) / W) = y := by
      have e : (k : Int) / W = y := by rw [HNW.out.1, ← hy]; push_cast; rfl
      rw [e, IntKind.wrap_i64]; omega
    have hjn : y * W + x = (k : Int) := by
      rw [← hx, ← hy, HNW.out.1, ← Int.natCast_mul, ← Int.natCast_add, Nat.mul_comm, Nat.div_add_mod]
    obtain ⟨mv, hmv⟩ : ∃ z, mn4 (T (k * 4)) (T (k * 4 + 1)) (T (k * 4 + 2)) (T (k * 4 + 3)) = z := ⟨_, rfl⟩
    have HMV := Lib.hid hmv
    have hfl : (1099511627776 ≤ mv → farS F B tx ty x y = -1) ∧ (¬ 1099511627776 ≤ mv → farS F B tx ty x y = mv) := by
      refine far_least HF.out.2 ?_
      rw [← hmv]
      have h0 := HSP.out k 0 hlt (by omega)
      have h1 := HSP.out k 1 hlt (by omega)
      have h2 := HSP.out k 2 hlt (by omega)
      have h3 := HSP.out k 3 hlt (by omega)
      rw [Nat.add_zero] at h0
      rw [h0, h1, h2, h3, hx, hy]
      exact least_spec (by omega)
    have HFL := Lib.hid hfl
    have G0 : Hid (∀ w' : World, Below wr.heap.size wr w' → w'.heap[bG]? = some (.cells #[.int .i64 W, .int .i64 H, .int .i64 M, .int .i64 B, .slice ao nb cb] 24 (0, 0)) ∧ w'.cell? ⟨bG, 0, none⟩ = some (.int .i64 W)) := Lib.hid (fun w' hb => ⟨(hb.block _ (by omega)).trans KG.out, cell_of_blk ((hb.block _ (by omega)).trans KG.out) rfl⟩)
    have D0 : Below wr.heap.size wr wr.drew := (Below.refl _ _).drew
    have hW0 : ¬ W = 0 := by omega
    clear hx hy hmv hfl
    go_upto_region 10 with fail
    refine wp_region_held_drew (S := fun w' => w'.heap[bG]? = some (.cells #[.int .i64 W, .int .i64 H, .int .i64 M, .int .i64 B, .slice ao nb cb] 24 (0, 0)) ∧ w'.cell? ⟨bG, 0, none⟩ = some (.int .i64 W)) (by kernel_rfl) (G0.out _ D0) (fun hHeld => ?_)
    refine wpAnyH_take (i := 0) (oi := _) (v := _) rfl (by kernel_rfl) (by kernel_rfl) (by kernel_rfl) (fun _ _ _ h => h) (yieldsIf_load_mid (by rfl) 24 _ rfl bG 0 rfl ([.int .i64 W, .int .i64 H, .int .i64 M, .int .i64 B, .slice ao nb cb]) _ (fun w' hh => range_row hh.1 0 [.int .i64 W, .int .i64 H, .int .i64 M, .int .i64 B, .slice ao nb cb] (fun j hj => by simp only [Nat.zero_add, List.getElem?_toArray])) Try.underlying24 rfl (by kernel_rfl)) (by assumption) ?_
    try change wpAnyH _ _ _ _ _ _ _ (Act.put _ (some 25) _) _
    try simp only [act_all]
    refine wpAnyH_take (i := 1) (oi := _) (v := ?_) rfl (by kernel_rfl) (by kernel_rfl) (by kernel_rfl) (fun _ _ _ h => h) (Or.inl ⟨by rfl, ?_⟩) (by assumption) ?_
    rotate_left
    · intro w hSw; obtain ⟨s0, s1⟩ := hSw; go_simp; (try with_reducible rfl)
    try change wpAnyH _ _ _ _ _ _ _ (Act.put _ (some 26) _) _
    try simp only [act_all]
    refine wpAnyH_take (i := 2) (oi := _) (v := ?_) rfl (by kernel_rfl) (by kernel_rfl) (by kernel_rfl) (fun _ _ _ h => h) (Or.inl ⟨by rfl, ?_⟩) (by assumption) ?_
    rotate_left
    · intro w hSw; obtain ⟨s0, s1⟩ := hSw; go_simp; (try with_reducible rfl)
    try change wpAnyH _ _ _ _ _ _ _ (Act.put _ (some 27) _) _
    try simp only [act_all]
    refine wpAnyH_take (i := 3) (oi := _) (v := ?_) rfl (by kernel_rfl) (by kernel_rfl) (by kernel_rfl) (fun _ _ _ h => h) (Or.inl ⟨by rfl, ?_⟩) (by assumption) ?_
    rotate_left
    · intro w hSw; obtain ⟨s0, s1⟩ := hSw; go_simp; (try with_reducible rfl)
    try change wpAnyH _ _ _ _ _ _ _ (Act.put _ (some 28) _) _
    try simp only [act_all]
    refine wpAnyH_take (i := 4) (oi := _) (v := ?_) rfl (by kernel_rfl) (by kernel_rfl) (by kernel_rfl) (fun _ _ _ h => h) (Or.inl ⟨by rfl, ?_⟩) (by assumption) ?_
    rotate_left
    · intro w hSw; obtain ⟨s0, s1⟩ := hSw; go_simp; (try with_reducible rfl)
    try change wpAnyH _ _ _ _ _ _ _ (Act.put _ (some 29) _) _
    try simp only [act_all]
    refine wpAnyH_take (i := 5) (oi := _) (v := ?_) rfl (by kernel_rfl) (by kernel_rfl) (by kernel_rfl) (fun _ _ _ h => h) (Or.inl ⟨by rfl, ?_⟩) (by assumption) ?_
    rotate_left
    · intro w hSw; obtain ⟨s0, s1⟩ := hSw; go_simp; (try with_reducible rfl)
    try change wpAnyH _ _ _ _ _ _ _ (Act.put _ (some 30) _) _
    try simp only [act_all]
    refine wpAnyH_take (i := 6) (oi := _) (v := ?_) rfl (by kernel_rfl) (by kernel_rfl) (by kernel_rfl) (fun _ _ _ h => h) (Or.inl ⟨by rfl, ?_⟩) (by assumption) ?_
    rotate_left
    · intro w hSw; obtain ⟨s0, s1⟩ := hSw; go_simp; (try with_reducible rfl)
    try change wpAnyH _ _ _ _ _ _ _ (Act.put _ (some 31) _) _
    try simp only [act_all]
    refine wpAnyH_take (i := 7) (oi := _) (v := ?_) rfl (by kernel_rfl) (by kernel_rfl) (by kernel_rfl) (fun _ _ _ h => h) (Or.inl ⟨by rfl, ?_⟩) (by assumption) ?_
    rotate_left
    · intro w hSw; obtain ⟨s0, s1⟩ := hSw; go_simp; (try with_reducible rfl)
    try change wpAnyH _ _ _ _ _ _ _ (Act.put _ (some 32) _) _
    try simp only [act_all]
    refine wpAnyH_take (i := 8) (oi := _) (v := ?_) rfl (by kernel_rfl) (by kernel_rfl) (by kernel_rfl) (fun _ _ _ h => h) (Or.inl ⟨by rfl, ?_⟩) (by assumption) ?_
    rotate_left
    · intro w hSw; obtain ⟨s0, s1⟩ := hSw; go_simp; (try with_reducible rfl)
    try change wpAnyH _ _ _ _ _ _ _ (Act.put _ (some 33) _) _
    try simp only [act_all]
    refine wpAnyH_take (i := 9) (oi := _) (v := ?_) rfl (by kernel_rfl) (by kernel_rfl) (by kernel_rfl) (fun _ _ _ h => h) (Or.inl ⟨by rfl, ?_⟩) (by assumption) ?_
    rotate_left
    · intro w hSw; obtain ⟨s0, s1⟩ := hSw; go_simp; (try with_reducible rfl)
    try change wpAnyH _ _ _ _ _ _ _ (Act.put _ (some 34) _) _
    try simp only [act_all]
    refine wpAnyH_take (i := 10) (oi := _) (v := ?_) rfl (by kernel_rfl) (by kernel_rfl) (by kernel_rfl) (fun _ _ _ h => h) (Or.inl ⟨by rfl, ?_⟩) (by assumption) ?_
    rotate_left
    · intro w hSw; obtain ⟨s0, s1⟩ := hSw; go_simp; (try with_reducible rfl)
    try change wpAnyH _ _ _ _ _ _ _ (Act.put _ (some 35) _) _
    try simp only [act_all]
    refine wpAnyH_ready (rs := [11]) (by kernel_rfl) (by simp) ?_
    refine AllReadyH.cons (o := _) rfl (fun K hK => ?_) AllReadyH.nil
    go_simp
    refine (least_any W H M B x y nb cb N bT k ao T _ (HT.out.keep (D0.block _ (by omega))) hjn hlt hN9 (by omega) hxr hyr).mono ?_
    rw [HMV.out]
    rintro e_ t1 ⟨rfl, hb⟩
    have D1 : Below wr.heap.size wr t1 := D0.trans (hb.mono D0.size)
    clear hb hHeld
    refine hK.out _ _ (G0.out _ D1) (fun hHeld => ?_)
    clear hK K
    try simp only [act_all]
    refine wpAnyH_take (i := 12) (oi := _) (v := ?_) rfl (by kernel_rfl) (by kernel_rfl) (by kernel_rfl) (fun _ _ _ h => h) (Or.inl ⟨by rfl, ?_⟩) (by assumption) ?_
    rotate_left
    · intro w hSw; obtain ⟨s0, s1⟩ := hSw; go_simp; (try with_reducible rfl)
    try change wpAnyH _ _ _ _ _ _ _ (Act.put _ (some 9) _) _
    try simp only [act_all]
    refine wpAnyH_done (by kernel_rfl) ?_ _
    clear hHeld
    have HO1 := Lib.hid (own_below' HO.out D1)
    have HT1 := Lib.hid (HT.out.keep (D1.block _ (by omega)))
    have KG1 : Hid (G5 t1 bG W H M B ao nb cb) := Lib.hid (G0.out _ D1).1
    have HB1 : Hid (Below w.heap.size w t1) := Lib.hid (HB.out.trans (D1.mono HB.out.size))
    have hz1 : bo ≤ t1.heap.size := by have := D1.size; omega
    clear D0 D1 G0 HO HT KG HB hz m1 m2 hjn
    by_cases hge : 1099511627776 ≤ mv
    case pos =>
      have HV9 : Hid (farS F B tx ty x y = -1) := Lib.hid (HFL.out.1 hge)
      clear HFL
      go_upto_region 13 with fail
      refine wp_region_lit ?_
      refine wpList_step (fun K hK => ?_); go_simp; refine hK _ _ ?_; clear hK K
      refine wpList_step (fun K hK => ?_); go_simp; refine hK _ _ ?_; clear hK K
      refine wpList_step (fun K hK => ?_); go_simp; refine hK _ _ ?_; clear hK K
      have hNB : (t1.alloc (.cells #[.int .i64 (-1)] 3)).heap[t1.heap.size]? = some (.cells #[.int .i64 (-1)] 3 (0, 0)) := heap_alloc_new t1 _
      refine wpList_append_own _ rfl _ _ 34 rfl bo 3 i0 _ 1 8 Try.underlying34 HI.out.1 HI.out.2.1 HI.out.2.2.1 HI.out.2.2.2 (by rfl) (by decide) u7 k (intC (fun j => farS F B tx ty (j % Wn : Nat) (j / Wn : Nat)) k) (by rfl) (HO1.out.alloc _) ⟨t1.heap.size, 0, none⟩ 1 1 [.int .i64 (-1)] (by rfl) rfl (fun j u hu => World.news_of_block (cs := #[.int .i64 (-1)]) hNB j u hu) (by intro u hu; simp only [List.mem_cons, List.not_mem_nil, or_false] at hu; subst hu; rfl) (by unfold maxLen; omega) (by omega) (by simp; omega) ?_
      intro v' w9 hown' hgrow hnil
      have hlb := HO1.out.lt
      have hk9 : ∀ j, j < bo → w9.heap[j]? = t1.heap[j]? := fun j hj => (hgrow.block _ (by simp; omega) (fun e => by have := (hlb _ e.symm).1; omega)).trans (Below.heap_alloc _ _ _ (by omega))
      have KG9 : Hid (G5 w9 bG W H M B ao nb cb) := Lib.hid ((hk9 _ (by omega)).trans KG1.out)
      have HT9 := Lib.hid (HT1.out.keep (hk9 bT (by omega)))
      have HB9 : Hid (Below w.heap.size w w9) := Lib.hid ((HB1.out.alloc HB1.out.size _).grown hgrow (by have := HB1.out.size; simp; omega) (fun j hj => by have := (hlb j hj).1; omega))
      have HO9 : Hid (w9.ownsRow bo 3 1 v' (k + 1) (intC (fun j => farS F B tx ty (j % Wn : Nat) (j / Wn : Nat)) (k + 1))) := Lib.hid (by rw [intC_next]; simp only [HXY.out.1, HXY.out.2, HV9.out]; exact hown')
      have hz9 : bo ≤ w9.heap.size := by have := hgrow.size; simp at this; omega
      clear hown' hgrow hnil hlb hk9 hNB KG1 HT1 HB1 HO1 hz1
      refine wpList_step (fun K hK => ?_); go_simp; refine hK _ _ ?_; clear hK K
      refine wpList_nil ?_
      go_wp2_with fail
      go_roundg (N - (k + 1))
      case measure => have := HGG.out; omega
      case rel => exact ⟨k + 1, by go_num, by omega, Lib.hid (Nat.le_refl _), HO9, HT9, KG9, HB9, hz9⟩
    have HV9 : Hid (farS F B tx ty x y = mv) := Lib.hid (HFL.out.2 hge)
    clear HFL
    go_upto_region 13 with fail
    refine wp_region_lit ?_
    refine wpList_step (fun K hK => ?_); go_simp; refine hK _ _ ?_; clear hK K
    refine wpList_step (fun K hK => ?_); go_simp; refine hK _ _ ?_; clear hK K
    refine wpList_step (fun K hK => ?_); go_simp; refine hK _ _ ?_; clear hK K
    have hNB : (t1.alloc (.cells #[.int .i64 mv] 3)).heap[t1.heap.size]? = some (.cells #[.int .i64 mv] 3 (0, 0)) := heap_alloc_new t1 _
    refine wpList_append_own _ rfl _ _ 34 rfl bo 3 i0 _ 1 8 Try.underlying34 HI.out.1 HI.out.2.1 HI.out.2.2.1 HI.out.2.2.2 (by rfl) (by decide) u7 k (intC (fun j => farS F B tx ty (j % Wn : Nat) (j / Wn : Nat)) k) (by rfl) (HO1.out.alloc _) ⟨t1.heap.size, 0, none⟩ 1 1 [.int .i64 mv] (by rfl) rfl (fun j u hu => World.news_of_block (cs := #[.int .i64 mv]) hNB j u hu) (by intro u hu; simp only [List.mem_cons, List.not_mem_nil, or_false] at hu; subst hu; rfl) (by unfold maxLen; omega) (by omega) (by simp; omega) ?_
    intro v' w9 hown' hgrow hnil
    have hlb := HO1.out.lt
    have hk9 : ∀ j, j < bo → w9.heap[j]? = t1.heap[j]? := fun j hj => (hgrow.block _ (by simp; omega) (fun e => by have := (hlb _ e.symm).1; omega)).trans (Below.heap_alloc _ _ _ (by omega))
    have KG9 : Hid (G5 w9 bG W H M B ao nb cb) := Lib.hid ((hk9 _ (by omega)).trans KG1.out)
    have HT9 := Lib.hid (HT1.out.keep (hk9 bT (by omega)))
    have HB9 : Hid (Below w.heap.size w w9) := Lib.hid ((HB1.out.alloc HB1.out.size _).grown hgrow (by have := HB1.out.size; simp; omega) (fun j hj => by have := (hlb j hj).1; omega))
    have HO9 : Hid (w9.ownsRow bo 3 1 v' (k + 1) (intC (fun j => farS F B tx ty (j % Wn : Nat) (j / Wn : Nat)) (k + 1))) := Lib.hid (by rw [intC_next]; simp only [HXY.out.1, HXY.out.2, HV9.out]; exact hown')
    have hz9 : bo ≤ w9.heap.size := by have := hgrow.size; simp at this; omega
    clear hown' hgrow hnil hlb hk9 hNB KG1 HT1 HB1 HO1 hz1
    refine wpList_step (fun K hK => ?_); go_simp; refine hK _ _ ?_; clear hK K
    refine wpList_nil ?_
    go_wp2_with fail
    go_roundg (N - (k + 1))
    case measure => have := HGG.out; omega
    case rel => exact ⟨k + 1, by go_num, by omega, Lib.hid (Nat.le_refl _), HO9, HT9, KG9, HB9, hz9⟩
end Go.Proofs.Ytkkcnhhfdicppaa
