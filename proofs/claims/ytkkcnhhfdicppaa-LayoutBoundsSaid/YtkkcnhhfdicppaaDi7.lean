import Derived.Test.YtkkcnhhfdicppaaIq7
import Derived.Lib.MinMax
namespace Lay
/-- Move times the distance to a place. -/
def diS (Wn : Nat) (M tx ty : Int) (j : Nat) : Int := M * (max (((j % Wn : Nat) : Int) - tx) (-(((j % Wn : Nat) : Int) - tx)) + max (((j / Wn : Nat) : Int) - ty) (-(((j / Wn : Nat) : Int) - ty)))
end Lay
namespace Go.Proofs.Ytkkcnhhfdicppaa
open Go.RowKit Lay
set_option maxRecDepth 100000 in
set_option maxHeartbeats 8000000 in
theorem distance_any (W H M B tx ty : Int) (n cp Wn Hn N : Nat) (ao : Option Addr) (w : World) (hW : W = Wn) (hH : H = Hn) (hN : N = Hn * Wn) (hW1 : 1 ≤ Wn) (hW9 : Wn ≤ 30) (hH9 : Hn ≤ 30) (hM : 0 ≤ M ∧ M ≤ 1000) (htx : 0 ≤ tx ∧ tx < 30) (hty : 0 ≤ ty ∧ ty < 30) :
    Calls Try.prog 33 #[.agg #[.int .i64 W, .int .i64 H, .int .i64 M, .int .i64 B, .slice ao n cp], .agg #[.int .i64 tx, .int .i64 ty]] w fun e w' => ∃ v, e = .returned v ∧ w'.ownsRow w.heap.size 3 1 v N (intC (diS Wn M tx ty) N) ∧ Below w.heap.size w w' := by
  obtain ⟨i0, hi, hz0, hz1', hz2'⟩ := info_parts int_info
  have HI := Lib.hid (And.intro hi (And.intro hz0 (And.intro hz1' hz2')))
  clear hi hz0 hz1' hz2'
  have hN9 : N ≤ 900 := by rw [hN]; exact Nat.le_trans (Nat.mul_le_mul hH9 hW9) (by decide)
  have hWH : W * H = N := by rw [hW, hH, hN]; push_cast; exact Int.mul_comm _ _
  have HWW := Lib.hid (And.intro hW hH)
  have HNN := Lib.hid hN
  have hW0 : ¬ W = 0 := by omega
  clear hW hH hN
  go_enter Try.func33, Try.ntmps33
  go_wp2_with fail

  obtain ⟨b2, hb2⟩ : ∃ b, b = w.heap.size := ⟨_, rfl⟩
  obtain ⟨b3, hb3⟩ : ∃ b, b = w.heap.size + 1 := ⟨_, rfl⟩
  have HWH := Lib.hid hWH
  clear hWH
  go_loopg [5, 14] N (fun gg v5 v14 wr => ∃ k : Nat, v14 = .int .i64 k ∧ k ≤ N ∧ Hid (N - k ≤ gg) ∧ Hid (wr.ownsRow (w.heap.size + 2) 3 1 v5 k (intC (diS Wn M tx ty) k)) ∧ Hid (G5 wr w.heap.size W H M B ao n cp) ∧ Hid (wr.heap[w.heap.size + 1]? = some (.cells #[.int .i64 tx, .int .i64 ty] 26 (0, 0))) ∧ Hid (Below w.heap.size w wr) ∧ w.heap.size + 2 ≤ wr.heap.size)
  case atStart => exact ⟨0, rfl, by omega, Lib.hid (by omega), Lib.hid (World.ownsRow_nil _ _ _ _), Lib.hid ((Below.heap_alloc _ _ _ (by simp)).trans (heap_alloc_new w _)), Lib.hid (by have h := heap_alloc_new (w.alloc (.cells #[.int .i64 W, .int .i64 H, .int .i64 M, .int .i64 B, .slice ao n cp] 24)) (.cells #[.int .i64 tx, .int .i64 ty] 26); rwa [World.size_alloc] at h), Lib.hid (by go_grown), by simp⟩
  case round =>
    obtain ⟨k, rfl, hk, HG, HO, KG, KT, HB, hz⟩ := hrel
    by_cases hlt : k < N
    case neg =>
      obtain rfl : k = N := by omega
      have HR := Lib.hid (ownsRow_base HO.out (show w.heap.size ≤ w.heap.size + 2 by omega))
      go_wp2_with fail
      refine bodyPost_ret (v := u5) (by simp [results, Try.results33, go_sem, *]) rfl ⟨u5, rfl, HR.out, HB.out⟩
    have HGG : Hid (N - k ≤ gk) := Lib.hid HG.out
    obtain ⟨x, hx⟩ : ∃ z : Int, ((k % Wn : Nat) : Int) = z := ⟨_, rfl⟩
    obtain ⟨y, hy⟩ : ∃ z : Int, ((k / Wn : Nat) : Int) = z := ⟨_, rfl⟩
    have HXY : Hid ((k : Int) % W = x ∧ (k : Int) / W = y) := Lib.hid (by
      rw [HWW.out.1]
      exact ⟨by rw [← hx]; push_cast; rfl, by rw [← hy]; push_cast; rfl⟩)
    have hxb : 0 ≤ x ∧ x < 30 := by
      have h1 := Nat.mod_lt k (show 0 < Wn by omega)
      generalize k % Wn = q at h1 hx
      omega
    have hyb : 0 ≤ y ∧ y < 30 := by
      have h1 : k / Wn < Hn := Nat.div_lt_of_lt_mul (by rw [Nat.mul_comm, ← HNN.out]; exact hlt)
      generalize k / Wn = q at h1 hy
      omega
    obtain ⟨ax, hax⟩ : ∃ z, x - tx = z := ⟨_, rfl⟩
    obtain ⟨ay, hay⟩ : ∃ z, y - ty = z := ⟨_, rfl⟩
    obtain ⟨dv, hdv⟩ : ∃ z, M * (max ax (-ax) + max ay (-ay)) = z := ⟨_, rfl⟩
    have HDV : Hid (diS Wn M tx ty k = dv) := Lib.hid (by unfold diS; rw [hx, hy, hax, hay]; exact hdv)
    have hmx : 0 ≤ max ax (-ax) + max ay (-ay) ∧ max ax (-ax) + max ay (-ay) ≤ 60 := by omega
    have hdb : 0 ≤ dv ∧ dv ≤ 60000 := by
      rw [← hdv]
      exact ⟨Int.mul_nonneg hM.1 hmx.1, Int.le_trans (Int.mul_le_mul hM.2 hmx.2 hmx.1 (by omega)) (by decide)⟩
    have m1 : ((k : Int)).tmod W = x := by rw [Int.tmod_eq_emod_of_nonneg (Int.natCast_nonneg _)]; exact HXY.out.1
    have m2 : IntKind.i64.wrap ((k : Int) / W) = y := by rw [HXY.out.2, IntKind.wrap_i64]; omega
    have m3 : IntKind.i64.wrap (x - tx) = ax := by rw [IntKind.wrap_i64]; omega
    have m4 : IntKind.i64.wrap (y - ty) = ay := by rw [IntKind.wrap_i64]; omega
    have HDE := Lib.hid hdv
    have hab : -30 ≤ ax ∧ ax ≤ 30 ∧ -30 ≤ ay ∧ ay ≤ 30 := by omega
    clear hx hy HG hax hay hdv
    have G0 : Hid (∀ w' : World, Below wr.heap.size wr w' → w'.cell? ⟨w.heap.size, 0, none⟩ = some (.int .i64 W) ∧ w'.cell? ⟨w.heap.size + 1, 0, none⟩ = some (.int .i64 tx) ∧ w'.cell? ⟨w.heap.size + 1, 1, none⟩ = some (.int .i64 ty)) := Lib.hid (fun w' hb => ⟨cell_of_blk ((hb.block _ (by omega)).trans KG.out) rfl, cell_of_blk ((hb.block _ (by omega)).trans KT.out) rfl, cell_of_blk ((hb.block _ (by omega)).trans KT.out) rfl⟩)
    go_upto_region 5 with fail
    refine wp_region_held_drew (S := fun w' => w'.cell? ⟨w.heap.size, 0, none⟩ = some (.int .i64 W) ∧ w'.cell? ⟨w.heap.size + 1, 0, none⟩ = some (.int .i64 tx) ∧ w'.cell? ⟨w.heap.size + 1, 1, none⟩ = some (.int .i64 ty)) (by kernel_rfl) (G0.out wr.drew (Below.refl _ _).drew) (fun hHeld => ?_)
    refine wpAnyH_take (i := 0) (oi := _) (v := ?_) rfl (by kernel_rfl) (by kernel_rfl) (by kernel_rfl) (fun _ _ _ h => h) (Or.inl ⟨by rfl, ?_⟩) (by assumption) ?_
    rotate_left
    · intro w hSw; obtain ⟨s0, s1, s2⟩ := hSw; go_simp; (try with_reducible rfl)
    try change wpAnyH _ _ _ _ _ _ _ (Act.put _ (some 17) _) _
    try simp only [act_all]
    refine wpAnyH_take (i := 1) (oi := _) (v := ?_) rfl (by kernel_rfl) (by kernel_rfl) (by kernel_rfl) (fun _ _ _ h => h) (Or.inl ⟨by rfl, ?_⟩) (by assumption) ?_
    rotate_left
    · intro w hSw; obtain ⟨s0, s1, s2⟩ := hSw; go_simp; (try with_reducible rfl)
    try change wpAnyH _ _ _ _ _ _ _ (Act.put _ (some 18) _) _
    try simp only [act_all]
    refine wpAnyH_take (i := 2) (oi := _) (v := ?_) rfl (by kernel_rfl) (by kernel_rfl) (by kernel_rfl) (fun _ _ _ h => h) (Or.inl ⟨by rfl, ?_⟩) (by assumption) ?_
    rotate_left
    · intro w hSw; obtain ⟨s0, s1, s2⟩ := hSw; go_simp; (try with_reducible rfl)
    try change wpAnyH _ _ _ _ _ _ _ (Act.put _ (some 19) _) _
    try simp only [act_all]
    refine wpAnyH_take (i := 3) (oi := _) (v := ?_) rfl (by kernel_rfl) (by kernel_rfl) (by kernel_rfl) (fun _ _ _ h => h) (Or.inl ⟨by rfl, ?_⟩) (by assumption) ?_
    rotate_left
    · intro w hSw; obtain ⟨s0, s1, s2⟩ := hSw; go_simp; (try with_reducible rfl)
    try change wpAnyH _ _ _ _ _ _ _ (Act.put _ (some 20) _) _
    try simp only [act_all]
    refine wpAnyH_take (i := 4) (oi := _) (v := ?_) rfl (by kernel_rfl) (by kernel_rfl) (by kernel_rfl) (fun _ _ _ h => h) (Or.inl ⟨by rfl, ?_⟩) (by assumption) ?_
    rotate_left
    · intro w hSw; obtain ⟨s0, s1, s2⟩ := hSw; go_simp; (try with_reducible rfl)
    try change wpAnyH _ _ _ _ _ _ _ (Act.put _ (some 21) _) _
    try simp only [act_all]
    refine wpAnyH_take (i := 5) (oi := _) (v := ?_) rfl (by kernel_rfl) (by kernel_rfl) (by kernel_rfl) (fun _ _ _ h => h) (Or.inl ⟨by rfl, ?_⟩) (by assumption) ?_
    rotate_left
    · intro w hSw; obtain ⟨s0, s1, s2⟩ := hSw; go_simp; (try with_reducible rfl)
    try change wpAnyH _ _ _ _ _ _ _ (Act.put _ (some 22) _) _
    try simp only [act_all]
    refine wpAnyH_take (i := 6) (oi := _) (v := ?_) rfl (by kernel_rfl) (by kernel_rfl) (by kernel_rfl) (fun _ _ _ h => h) (Or.inl ⟨by rfl, ?_⟩) (by assumption) ?_
    rotate_left
    · intro w hSw; obtain ⟨s0, s1, s2⟩ := hSw; go_simp; (try with_reducible rfl)
    try change wpAnyH _ _ _ _ _ _ _ (Act.put _ (some 23) _) _
    try simp only [act_all]
    refine wpAnyH_take (i := 7) (oi := _) (v := ?_) rfl (by kernel_rfl) (by kernel_rfl) (by kernel_rfl) (fun _ _ _ h => h) (Or.inl ⟨by rfl, ?_⟩) (by assumption) ?_
    rotate_left
    · intro w hSw; obtain ⟨s0, s1, s2⟩ := hSw; go_simp; (try with_reducible rfl)
    try change wpAnyH _ _ _ _ _ _ _ (Act.put _ (some 24) _) _
    try simp only [act_all]
    refine wpAnyH_take (i := 8) (oi := _) (v := ?_) rfl (by kernel_rfl) (by kernel_rfl) (by kernel_rfl) (fun _ _ _ h => h) (Or.inl ⟨by rfl, ?_⟩) (by assumption) ?_
    rotate_left
    · intro w hSw; obtain ⟨s0, s1, s2⟩ := hSw; go_simp; (try with_reducible rfl)
    try change wpAnyH _ _ _ _ _ _ _ (Act.put _ (some 25) _) _
    try simp only [act_all]
    refine wpAnyH_take (i := 9) (oi := _) (v := ?_) rfl (by kernel_rfl) (by kernel_rfl) (by kernel_rfl) (fun _ _ _ h => h) (Or.inl ⟨by rfl, ?_⟩) (by assumption) ?_
    rotate_left
    · intro w hSw; obtain ⟨s0, s1, s2⟩ := hSw; go_simp; (try with_reducible rfl)
    try change wpAnyH _ _ _ _ _ _ _ (Act.put _ (some 26) _) _
    try simp only [act_all]
    refine wpAnyH_take (i := 10) (oi := _) (v := ?_) rfl (by kernel_rfl) (by kernel_rfl) (by kernel_rfl) (fun _ _ _ h => h) (Or.inl ⟨by rfl, ?_⟩) (by assumption) ?_
    rotate_left
    · intro w hSw; obtain ⟨s0, s1, s2⟩ := hSw; go_simp; (try with_reducible rfl)
    try change wpAnyH _ _ _ _ _ _ _ (Act.put _ (some 27) _) _
    try simp only [act_all]
    refine wpAnyH_take (i := 11) (oi := _) (v := ?_) rfl (by kernel_rfl) (by kernel_rfl) (by kernel_rfl) (fun _ _ _ h => h) (Or.inl ⟨by rfl, ?_⟩) (by assumption) ?_
    rotate_left
    · intro w hSw; obtain ⟨s0, s1, s2⟩ := hSw; go_simp; (try with_reducible rfl)
    try change wpAnyH _ _ _ _ _ _ _ (Act.put _ (some 28) _) _
    try simp only [act_all]
    refine wpAnyH_take (i := 12) (oi := _) (v := ?_) rfl (by kernel_rfl) (by kernel_rfl) (by kernel_rfl) (fun _ _ _ h => h) (Or.inl ⟨by rfl, ?_⟩) (by assumption) ?_
    rotate_left
    · intro w hSw; obtain ⟨s0, s1, s2⟩ := hSw; go_simp; (try with_reducible rfl)
    try change wpAnyH _ _ _ _ _ _ _ (Act.put _ (some 29) _) _
    try simp only [act_all]
    refine wpAnyH_take (i := 13) (oi := _) (v := ?_) rfl (by kernel_rfl) (by kernel_rfl) (by kernel_rfl) (fun _ _ _ h => h) (Or.inl ⟨by rfl, ?_⟩) (by assumption) ?_
    rotate_left
    · intro w hSw; obtain ⟨s0, s1, s2⟩ := hSw; go_simp; (try with_reducible rfl)
    try change wpAnyH _ _ _ _ _ _ _ (Act.put _ (some 30) _) _
    try simp only [act_all]
    refine wpAnyH_take (i := 14) (oi := _) (v := ?_) rfl (by kernel_rfl) (by kernel_rfl) (by kernel_rfl) (fun _ _ _ h => h) (Or.inl ⟨by rfl, ?_⟩) (by assumption) ?_
    rotate_left
    · intro w hSw; obtain ⟨s0, s1, s2⟩ := hSw; go_simp; (try with_reducible rfl)
    try change wpAnyH _ _ _ _ _ _ _ (Act.put _ (some 7) _) _
    try simp only [act_all]
    refine wpAnyH_take (i := 15) (oi := _) (v := ?_) rfl (by kernel_rfl) (by kernel_rfl) (by kernel_rfl) (fun _ _ _ h => h) (Or.inl ⟨by rfl, ?_⟩) (by assumption) ?_
    rotate_left
    · intro w hSw; obtain ⟨s0, s1, s2⟩ := hSw; go_simp; (try with_reducible rfl)
    try change wpAnyH _ _ _ _ _ _ _ (Act.put _ (some 8) _) _
    try simp only [act_all]
    refine wpAnyH_done (by kernel_rfl) ?_ _
    clear hHeld m1 m2 m3 m4 G0
    have KG1 : Hid (G5 wr.drew w.heap.size W H M B ao n cp) := Lib.hid KG.out
    have KT1 : Hid (wr.drew.heap[w.heap.size + 1]? = some (.cells #[.int .i64 tx, .int .i64 ty] 26 (0, 0))) := Lib.hid KT.out
    have HO1 : Hid (wr.drew.ownsRow (w.heap.size + 2) 3 1 u5 k (intC (diS Wn M tx ty) k)) := Lib.hid HO.out
    have HB1 : Hid (Below w.heap.size w wr.drew) := Lib.hid HB.out.drew
    have hz1 : w.heap.size + 2 ≤ wr.drew.heap.size := hz
    generalize wr.drew = wq at *
    clear KG KT HO HB hz
    obtain ⟨g0, g1, g2, g3, g4⟩ := G5.c KG1.out
    have n1 : IntKind.i64.wrap (-ax) = -ax := by rw [IntKind.wrap_i64]; omega
    have n2 : IntKind.i64.wrap (-ay) = -ay := by rw [IntKind.wrap_i64]; omega
    have n3 : IntKind.i64.wrap (max ax (-ax) + max ay (-ay)) = max ax (-ax) + max ay (-ay) := by rw [IntKind.wrap_i64]; omega
    have n4 : IntKind.i64.wrap (M * (max ax (-ax) + max ay (-ay))) = dv := by rw [HDE.out, IntKind.wrap_i64]; omega
    go_upto_region 6 with fail
    refine wp_region_lit ?_
    refine wpList_step (fun K hK => ?_); go_simp; refine hK _ _ ?_; clear hK K
    refine wpList_step (fun K hK => ?_); go_simp; refine hK _ _ ?_; clear hK K
    refine wpList_step (fun K hK => ?_); go_simp; refine hK _ _ ?_; clear hK K
    refine wpList_step (fun K hK => ?_); go_simp; refine hK _ _ ?_; clear hK K
    refine wpList_step (fun K hK => ?_); go_simp; refine hK _ _ ?_; clear hK K
    refine wpList_step (fun K hK => ?_); go_simp; refine hK _ _ ?_; clear hK K
    refine wpList_step (fun K hK => ?_); go_simp; refine hK _ _ ?_; clear hK K
    refine wpList_step (fun K hK => ?_); go_simp; refine hK _ _ ?_; clear hK K
    refine wpList_step (fun K hK => ?_); go_simp; refine hK _ _ ?_; clear hK K
    refine wpList_step (fun K hK => ?_); go_simp; refine hK _ _ ?_; clear hK K
    refine wpList_step (fun K hK => ?_); go_simp; refine hK _ _ ?_; clear hK K
    refine wpList_step (fun K hK => ?_); go_simp; refine hK _ _ ?_; clear hK K
    refine wpList_step (fun K hK => ?_); go_simp; refine hK _ _ ?_; clear hK K
    refine wpList_step (fun K hK => ?_); go_simp; refine hK _ _ ?_; clear hK K
    have hNB : (wq.alloc (.cells #[.int .i64 dv] 3)).heap[wq.heap.size]? = some (.cells #[.int .i64 dv] 3 (0, 0)) := heap_alloc_new wq _
    refine wpList_append_own _ rfl _ _ 34 rfl (w.heap.size + 2) 3 i0 _ 1 8 Try.underlying34 HI.out.1 HI.out.2.1 HI.out.2.2.1 HI.out.2.2.2 (by rfl) (by decide) u5 k (intC (diS Wn M tx ty) k) (by rfl) (HO1.out.alloc _) ⟨wq.heap.size, 0, none⟩ 1 1 [.int .i64 dv] (by rfl) rfl (fun j u hu => World.news_of_block (cs := #[.int .i64 dv]) hNB j u hu) (by intro u hu; simp only [List.mem_cons, List.not_mem_nil, or_false] at hu; subst hu; rfl) (by unfold maxLen; omega) (by omega) (by simp; omega) ?_
    intro v' w9 hown' hgrow hnil
    have hlb := HO1.out.lt
    have hz9 : w.heap.size + 2 ≤ w9.heap.size := by have := hgrow.size; simp at this; omega
    have hk9 : ∀ j, j < w.heap.size + 2 → w9.heap[j]? = wq.heap[j]? := fun j hj => (hgrow.block _ (by simp; omega) (fun e => by have := (hlb _ e.symm).1; omega)).trans (Below.heap_alloc _ _ _ (by omega))
    have KG9 : Hid (G5 w9 w.heap.size W H M B ao n cp) := Lib.hid ((hk9 _ (by omega)).trans KG1.out)
    have KT9 : Hid (w9.heap[w.heap.size + 1]? = some (.cells #[.int .i64 tx, .int .i64 ty] 26 (0, 0))) := Lib.hid ((hk9 _ (by omega)).trans KT1.out)
    have HB9 : Hid (Below w.heap.size w w9) := Lib.hid ((HB1.out.alloc (by omega) _).grown hgrow (by simp; omega) (fun j hj => by have := (hlb j hj).1; omega))
    have HO9 : Hid (w9.ownsRow (w.heap.size + 2) 3 1 v' (k + 1) (intC (diS Wn M tx ty) (k + 1))) := Lib.hid (by rw [intC_next, HDV.out]; exact hown')
    clear hown' hgrow hnil hlb hk9 hNB KG1 KT1 HB1 HO1 n1 n2 n3 n4 g0 g1 g2 g3 g4
    refine wpList_step (fun K hK => ?_); go_simp; refine hK _ _ ?_; clear hK K
    refine wpList_nil ?_
    go_wp2_with fail
    go_roundg (N - (k + 1))
    case measure => have := HGG.out; omega
    case rel => exact ⟨k + 1, by go_num, by omega, Lib.hid (Nat.le_refl _), HO9, KG9, KT9, HB9, hz9⟩
end Go.Proofs.Ytkkcnhhfdicppaa
