import Derived.Test.YtkkcnhhfdicppaaIq7
import Derived.Lib.MinMax
import Derived.Test.YtkkcnhhfdicppaaPa7
import Derived.Test.YtkkcnhhfdicppaaFa7
import Derived.Test.YtkkcnhhfdicppaaBk7
namespace Lay
/-- Move times the distance to a place. -/
def diS (Wn : Nat) (M tx ty : Int) (j : Nat) : Int := M * (max (((j % Wn : Nat) : Int) - tx) (-(((j % Wn : Nat) : Int) - tx)) + max (((j / Wn : Nat) : Int) - ty) (-(((j / Wn : Nat) : Int) - ty)))
end Lay
namespace Go.Proofs.Ytkkcnhhfdicppaa
open Go.RowKit Lay
set_option maxRecDepth 100000 in
set_option maxHeartbeats 8000000 in
theorem distance_any (W H M B tx ty : Int) (n cp Wn Hn N : Nat) (ao : Option Addr) (w : World) (hW : W = Wn) (hH : H = Hn) (hN : N = Hn * Wn) (hW1 : 1 ≤ Wn) (hW9 : Wn ≤ 30) (hH9 : Hn ≤ 30) (hM : 0 ≤ M ∧ M ≤ 1000) (htx : 0 ≤ tx ∧ tx < 30) (hty : 0 ≤ ty ∧ ty < 30) :
    Calls Try.prog 33 #[.agg #[.int .i64 W, .int .i64 H, .int .i64 M, .int .i64 B, .slice ao n cp], .agg #[.int .i64 tx, .int .i64 ty]] w fun e w' => ∃ v, e = .returned v ∧ w'.ownsRow w.heap.size 3 1 v N (intC (diS Wn M tx ty) N) ∧ Below w.heap.size w w' := by
  obtain ⟨i0, hi, hz0, hz1', hz2'⟩ := info_parts int_info
  have HI := Lib.hid (And.intro hi (And.intro hz0 (And.intro hz1' hz2')))
  clear hi hz0 hz1' hz2'
  have hN9 : N ≤ 900 := by rw [hN]; exact Nat.le_trans (Nat.mul_le_mul hH9 hW9) (by decide)
  have hWH : W * H = N := by rw [hW, hH, hN]; push_cast; exact Int.mul_comm _ _
  have HWW := Lib.hid (And.intro hW hH)
  have HNN := Lib.hid hN
  have hW0 : ¬ W = 0 := by omega
  clear hW hH hN
  go_enter Try.func33, Try.ntmps33
  go_wp2_with fail

  obtain ⟨b2, hb2⟩ : ∃ b, b = w.heap.size := ⟨_, rfl⟩
  obtain ⟨b3, hb3⟩ : ∃ b, b = w.heap.size + 1 := ⟨_, rfl⟩
  have HWH := Lib.hid hWH
  clear hWH
  go_loopg [5, 14] N (fun gg v5 v14 wr => ∃ k : Nat, v14 = .int .i64 k ∧ k ≤ N ∧ Hid (N - k ≤ gg) ∧ Hid (wr.ownsRow (w.heap.size + 2) 3 1 v5 k (intC (diS Wn M tx ty) k)) ∧ Hid (G5 wr w.heap.size W H M B ao n cp) ∧ Hid (wr.heap[w.heap.size + 1]? = some (.cells #[.int .i64 tx, .int .i64 ty] 26 (0, 0))) ∧ Hid (Below w.heap.size w wr) ∧ w.heap.size + 2 ≤ wr.heap.size)
  case atStart => exact ⟨0, rfl, by omega, Lib.hid (by omega), Lib.hid (World.ownsRow_nil _ _ _ _), Lib.hid ((Below.heap_alloc _ _ _ (by simp)).trans (heap_alloc_new w _)), Lib.hid (by have h := heap_alloc_new (w.alloc (.cells #[.int .i64 W, .int .i64 H, .int .i64 M, .int .i64 B, .slice ao n cp] 24)) (.cells #[.int .i64 tx, .int .i64 ty] 26); rwa [World.size_alloc] at h), Lib.hid (by go_grown), by simp⟩
  case round =>
    obtain ⟨k, rfl, hk, HG, HO, KG, KT, HB, hz⟩ := hrel
    by_cases hlt : k < N
    case neg =>
      obtain rfl : k = N := by omega
      have HR := Lib.hid (ownsRow_base HO.out (show w.heap.size ≤ w.heap.size + 2 by omega))
      go_wp2_with fail
      refine bodyPost_ret (v := u5) (by simp [results, Try.results33, go_sem, *]) rfl ⟨u5, rfl, HR.out, HB.out⟩
    have HGG : Hid (N - k ≤ gk) := Lib.hid HG.out
    obtain ⟨x, hx⟩ : ∃ z : Int, ((k % Wn : Nat) : Int) = z := ⟨_, rfl⟩
    obtain ⟨y, hy⟩ : ∃ z : Int, ((k / Wn : Nat) : Int) = z := ⟨_, rfl⟩
    have HXY : Hid ((k : Int) % W = x ∧ (k : Int) / W = y) := Lib.hid (by
      rw [HWW.out.1]
      exact ⟨by rw [← hx]; push_cast; rfl, by rw [← hy]; push_cast; rfl⟩)
    have hxb : 0 ≤ x ∧ x < 30 := by
      have h1 := Nat.mod_lt k (show 0 < Wn by omega)
      generalize k % Wn = q at h1 hx
      omega
    have hyb : 0 ≤ y ∧ y < 30 := by
      have h1 : k / Wn < Hn := Nat.div_lt_of_lt_mul (by rw [Nat.mul_comm, ← HNN.out]; exact hlt)
      generalize k / Wn = q at h1 hy
      omega
    obtain ⟨ax, hax⟩ : ∃ z, x - tx = z := ⟨_, rfl⟩
    obtain ⟨ay, hay⟩ : ∃ z, y - ty = z := ⟨_, rfl⟩
    obtain ⟨dv, hdv⟩ : ∃ z, M * (max ax (-ax) + max ay (-ay)) = z := ⟨_, rfl⟩
    have HDV : Hid (diS Wn M tx ty k = dv) := Lib.hid (by unfold diS; rw [hx, hy, hax, hay]; exact hdv)
    have hmx : 0 ≤ max ax (-ax) + max ay (-ay) ∧ max ax (-ax) + max ay (-ay) ≤ 60 := by omega
    have hdb : 0 ≤ dv ∧ dv ≤ 60000 := by
      rw [← hdv]
      exact ⟨Int.mul_nonneg hM.1 hmx.1, Int.le_trans (Int.mul_le_mul hM.2 hmx.2 hmx.1 (by omega)) (by decide)⟩
    have m1 : ((k : Int)).tmod W = x := by rw [Int.tmod_eq_emod_of_nonneg (Int.natCast_nonneg _)]; exact HXY.out.1
    have m2 : IntKind.i64.wrap ((k : Int) / W) = y := by rw [HXY.out.2, IntKind.wrap_i64]; omega
    have m3 : IntKind.i64.wrap (x - tx) = ax := by rw [IntKind.wrap_i64]; omega
    have m4 : IntKind.i64.wrap (y - ty) = ay := by rw [IntKind.wrap_i64]; omega
    have HDE := Lib.hid hdv
    have hab : -30 ≤ ax ∧ ax ≤ 30 ∧ -30 ≤ ay ∧ ay ≤ 30 := by omega
    clear hx hy HG hax hay hdv
    have G0 : Hid (∀ w' : World, Below wr.heap.size wr w' → w'.cell? ⟨w.heap.size, 0, none⟩ = some (.int .i64 W) ∧ w'.cell? ⟨w.heap.size + 1, 0, none⟩ = some (.int .i64 tx) ∧ w'.cell? ⟨w.heap.size + 1, 1, none⟩ = some (.int .i64 ty)) := Lib.hid (fun w' hb => ⟨cell_of_blk ((hb.block _ (by omega)).trans KG.out) rfl, cell_of_blk ((hb.block _ (by omega)).trans KT.out) rfl, cell_of_blk ((hb.block _ (by omega)).trans KT.out) rfl⟩)
    go_upto_region 5 with fail
    refine wp_region_held_drew (S := fun w' => w'.cell? ⟨w.heap.size, 0, none⟩ = some (.int .i64 W) ∧ w'.cell? ⟨w.heap.size + 1, 0, none⟩ = some (.int .i64 tx) ∧ w'.cell? ⟨w.heap.size + 1, 1, none⟩ = some (.int .i64 ty)) (by kernel_rfl) (G0.out wr.drew (Below.refl _ _).drew) (fun hHeld => ?_)
    refine wpAnyH_take (i := 0) (oi := _) (v := ?_) rfl (by kernel_rfl) (by kernel_rfl) (by kernel_rfl) (fun _ _ _ h => h) (Or.inl ⟨by rfl, ?_⟩) (by assumption) ?_
    rotate_left
    · intro w hSw; obtain ⟨s0, s1, s2⟩ := hSw; go_simp; (try with_reducible rfl)
    try change wpAnyH _ _ _ _ _ _ _ (Act.put _ (some 17) _) _
    try simp only [act_all]
    refine wpAnyH_take (i := 1) (oi := _) (v := ?_) rfl (by kernel_rfl) (by kernel_rfl) (by kernel_rfl) (fun _ _ _ h => h) (Or.inl ⟨by rfl, ?_⟩) (by assumption) ?_
    rotate_left
    · intro w hSw; obtain ⟨s0, s1, s2⟩ := hSw; go_simp; (try with_reducible rfl)
    try change wpAnyH _ _ _ _ _ _ _ (Act.put _ (some 18) _) _
    try simp only [act_all]
    refine wpAnyH_take (i := 2) (oi := _) (v := ?_) rfl (by kernel_rfl) (by kernel_rfl) (by kernel_rfl) (fun _ _ _ h => h) (Or.inl ⟨by rfl, ?_⟩) (by assumption) ?_
    rotate_left
    · intro w hSw; obtain ⟨s0, s1, s2⟩ := hSw; go_simp; (try with_reducible rfl)
    try change wpAnyH _ _ _ _ _ _ _ (Act.put _ (some 19) _) _
    try simp only [act_all]
    refine wpAnyH_take (i := 3) (oi := _) (v := ?_) rfl (by kernel_rfl) (by kernel_rfl) (by kernel_rfl) (fun _ _ _ h => h) (Or.inl ⟨by rfl, ?_⟩) (by assumption) ?_
    rotate_left
    · intro w hSw; obtain ⟨s0, s1, s2⟩ := hSw; go_simp; (try with_reducible rfl)
    try change wpAnyH _ _ _ _ _ _ _ (Act.put _ (some 20) _) _
    try simp only [act_all]
    refine wpAnyH_take (i := 4) (oi := _) (v := ?_) rfl (by kernel_rfl) (by kernel_rfl) (by kernel_rfl) (fun _ _ _ h => h) (Or.inl ⟨by rfl, ?_⟩) (by assumption) ?_
    rotate_left
    · intro w hSw; obtain ⟨s0, s1, s2⟩ := hSw; go_simp; (try with_reducible rfl)
    try change wpAnyH _ _ _ _ _ _ _ (Act.put _ (some 21) _) _
    try simp only [act_all]
    refine wpAnyH_take (i := 5) (oi := _) (v := ?_) rfl (by kernel_rfl) (by kernel_rfl) (by kernel_rfl) (fun _ _ _ h => h) (Or.inl ⟨by rfl, ?_⟩) (by assumption) ?_
    rotate_left
    · intro w hSw; obtain ⟨s0, s1, s2⟩ := hSw; go_simp; (try with_reducible rfl)
    try change wpAnyH _ _ _ _ _ _ _ (Act.put _ (some 22) _) _
    try simp only [act_all]
    refine wpAnyH_take (i := 6) (oi := _) (v := ?_) rfl (by kernel_rfl) (by kernel_rfl) (by kernel_rfl) (fun _ _ _ h => h) (Or.inl ⟨by rfl, ?_⟩) (by assumption) ?_
    rotate_left
    · intro w hSw; obtain ⟨s0, s1, s2⟩ := hSw; go_simp; (try with_reducible rfl)
    try change wpAnyH _ _ _ _ _ _ _ (Act.put _ (some 23) _) _
    try simp only [act_all]
    refine wpAnyH_take (i := 7) (oi := _) (v := ?_) rfl (by kernel_rfl) (by kernel_rfl) (by kernel_rfl) (fun _ _ _ h => h) (Or.inl ⟨by rfl, ?_⟩) (by assumption) ?_
    rotate_left
    · intro w hSw; obtain ⟨s0, s1, s2⟩ := hSw; go_simp; (try with_reducible rfl)
    try change wpAnyH _ _ _ _ _ _ _ (Act.put _ (some 24) _) _
    try simp only [act_all]
    refine wpAnyH_take (i := 8) (oi := _) (v := ?_) rfl (by kernel_rfl) (by kernel_rfl) (by kernel_rfl) (fun _ _ _ h => h) (Or.inl ⟨by rfl, ?_⟩) (by assumption) ?_
    rotate_left
    · intro w hSw; obtain ⟨s0, s1, s2⟩ := hSw; go_simp; (try with_reducible rfl)
    try change wpAnyH _ _ _ _ _ _ _ (Act.put _ (some 25) _) _
    try simp only [act_all]
    refine wpAnyH_take (i := 9) (oi := _) (v := ?_) rfl (by kernel_rfl) (by kernel_rfl) (by kernel_rfl) (fun _ _ _ h => h) (Or.inl ⟨by rfl, ?_⟩) (by assumption) ?_
    rotate_left
    · intro w hSw; obtain ⟨s0, s1, s2⟩ := hSw; go_simp; (try with_reducible rfl)
    try change wpAnyH _ _ _ _ _ _ _ (Act.put _ (some 26) _) _
    try simp only [act_all]
    refine wpAnyH_take (i := 10) (oi := _) (v := ?_) rfl (by kernel_rfl) (by kernel_rfl) (by kernel_rfl) (fun _ _ _ h => h) (Or.inl ⟨by rfl, ?_⟩) (by assumption) ?_
    rotate_left
    · intro w hSw; obtain ⟨s0, s1, s2⟩ := hSw; go_simp; (try with_reducible rfl)
    try change wpAnyH _ _ _ _ _ _ _ (Act.put _ (some 27) _) _
    try simp only [act_all]
    refine wpAnyH_take (i := 11) (oi := _) (v := ?_) rfl (by kernel_rfl) (by kernel_rfl) (by kernel_rfl) (fun _ _ _ h => h) (Or.inl ⟨by rfl, ?_⟩) (by assumption) ?_
    rotate_left
    · intro w hSw; obtain ⟨s0, s1, s2⟩ := hSw; go_simp; (try with_reducible rfl)
    try change wpAnyH _ _ _ _ _ _ _ (Act.put _ (some 28) _) _
    try simp only [act_all]
    refine wpAnyH_take (i := 12) (oi := _) (v := ?_) rfl (by kernel_rfl) (by kernel_rfl) (by kernel_rfl) (fun _ _ _ h => h) (Or.inl ⟨by rfl, ?_⟩) (by assumption) ?_
    rotate_left
    · intro w hSw; obtain ⟨s0, s1, s2⟩ := hSw; go_simp; (try with_reducible rfl)
    try change wpAnyH _ _ _ _ _ _ _ (Act.put _ (some 29) _) _
    try simp only [act_all]
    refine wpAnyH_take (i := 13) (oi := _) (v := ?_) rfl (by kernel_rfl) (by kernel_rfl) (by kernel_rfl) (fun _ _ _ h => h) (Or.inl ⟨by rfl, ?_⟩) (by assumption) ?_
    rotate_left
    · intro w hSw; obtain ⟨s0, s1, s2⟩ := hSw; go_simp; (try with_reducible rfl)
    try change wpAnyH _ _ _ _ _ _ _ (Act.put _ (some 30) _) _
    try simp only [act_all]
    refine wpAnyH_take (i := 14) (oi := _) (v := ?_) rfl (by kernel_rfl) (by kernel_rfl) (by kernel_rfl) (fun _ _ _ h => h) (Or.inl ⟨by rfl, ?_⟩) (by assumption) ?_
    rotate_left
    · intro w hSw; obtain ⟨s0, s1, s2⟩ := hSw; go_simp; (try with_reducible rfl)
    try change wpAnyH _ _ _ _ _ _ _ (Act.put _ (some 7) _) _
    try simp only [act_all]
    refine wpAnyH_take (i := 15) (oi := _) (v := ?_) rfl (by kernel_rfl) (by kernel_rfl) (by kernel_rfl) (fun _ _ _ h => h) (Or.inl ⟨by rfl, ?_⟩) (by assumption) ?_
    rotate_left
    · intro w hSw; obtain ⟨s0, s1, s2⟩ := hSw; go_simp; (try with_reducible rfl)
    try change wpAnyH _ _ _ _ _ _ _ (Act.put _ (some 8) _) _
    try simp only [act_all]
    refine wpAnyH_done (by kernel_rfl) ?_ _
    clear hHeld m1 m2 m3 m4 G0
    have KG1 : Hid (G5 wr.drew w.heap.size W H M B ao n cp) := Lib.hid KG.out
    have KT1 : Hid (wr.drew.heap[w.heap.size + 1]? = some (.cells #[.int .i64 tx, .int .i64 ty] 26 (0, 0))) := Lib.hid KT.out
    have HO1 : Hid (wr.drew.ownsRow (w.heap.size + 2) 3 1 u5 k (intC (diS Wn M tx ty) k)) := Lib.hid HO.out
    have HB1 : Hid (Below w.heap.size w wr.drew) := Lib.hid HB.out.drew
    have hz1 : w.heap.size + 2 ≤ wr.drew.heap.size := hz
    generalize wr.drew = wq at *
    clear KG KT HO HB hz
    obtain ⟨g0, g1, g2, g3, g4⟩ := G5.c KG1.out
    have n1 : IntKind.i64.wrap (-ax) = -ax := by rw [IntKind.wrap_i64]; omega
    have n2 : IntKind.i64.wrap (-ay) = -ay := by rw [IntKind.wrap_i64]; omega
    have n3 : IntKind.i64.wrap (max ax (-ax) + max ay (-ay)) = max ax (-ax) + max ay (-ay) := by rw [IntKind.wrap_i64]; omega
    have n4 : IntKind.i64.wrap (M * (max ax (-ax) + max ay (-ay))) = dv := by rw [HDE.out, IntKind.wrap_i64]; omega
    go_upto_region 6 with fail
    refine wp_region_lit ?_
    refine wpList_step (fun K hK => ?_); go_simp; refine hK _ _ ?_; clear hK K
    refine wpList_step (fun K hK => ?_); go_simp; refine hK _ _ ?_; clear hK K
    refine wpList_step (fun K hK => ?_); go_simp; refine hK _ _ ?_; clear hK K
    refine wpList_step (fun K hK => ?_); go_simp; refine hK _ _ ?_; clear hK K
    refine wpList_step (fun K hK => ?_); go_simp; refine hK _ _ ?_; clear hK K
    refine wpList_step (fun K hK => ?_); go_simp; refine hK _ _ ?_; clear hK K
    refine wpList_step (fun K hK => ?_); go_simp; refine hK _ _ ?_; clear hK K
    refine wpList_step (fun K hK => ?_); go_simp; refine hK _ _ ?_; clear hK K
    refine wpList_step (fun K hK => ?_); go_simp; refine hK _ _ ?_; clear hK K
    refine wpList_step (fun K hK => ?_); go_simp; refine hK _ _ ?_; clear hK K
    refine wpList_step (fun K hK => ?_); go_simp; refine hK _ _ ?_; clear hK K
    refine wpList_step (fun K hK => ?_); go_simp; refine hK _ _ ?_; clear hK K
    refine wpList_step (fun K hK => ?_); go_simp; refine hK _ _ ?_; clear hK K
    refine wpList_step (fun K hK => ?_); go_simp; refine hK _ _ ?_; clear hK K
    have hNB : (wq.alloc (.cells #[.int .i64 dv] 3)).heap[wq.heap.size]? = some (.cells #[.int .i64 dv] 3 (0, 0)) := heap_alloc_new wq _
    refine wpList_append_own _ rfl _ _ 34 rfl (w.heap.size + 2) 3 i0 _ 1 8 Try.underlying34 HI.out.1 HI.out.2.1 HI.out.2.2.1 HI.out.2.2.2 (by rfl) (by decide) u5 k (intC (diS Wn M tx ty) k) (by rfl) (HO1.out.alloc _) ⟨wq.heap.size, 0, none⟩ 1 1 [.int .i64 dv] (by rfl) rfl (fun j u hu => World.news_of_block (cs := #[.int .i64 dv]) hNB j u hu) (by intro u hu; simp only [List.mem_cons, List.not_mem_nil, or_false] at hu; subst hu; rfl) (by unfold maxLen; omega) (by omega) (by simp; omega) ?_
    intro v' w9 hown' hgrow hnil
    have hlb := HO1.out.lt
    have hz9 : w.heap.size + 2 ≤ w9.heap.size := by have := hgrow.size; simp at this; omega
    have hk9 : ∀ j, j < w.heap.size + 2 → w9.heap[j]? = wq.heap[j]? := fun j hj => (hgrow.block _ (by simp; omega) (fun e => by have := (hlb _ e.symm).1; omega)).trans (Below.heap_alloc _ _ _ (by omega))
    have KG9 : Hid (G5 w9 w.heap.size W H M B ao n cp) := Lib.hid ((hk9 _ (by omega)).trans KG1.out)
    have KT9 : Hid (w9.heap[w.heap.size + 1]? = some (.cells #[.int .i64 tx, .int .i64 ty] 26 (0, 0))) := Lib.hid ((hk9 _ (by omega)).trans KT1.out)
    have HB9 : Hid (Below w.heap.size w w9) := Lib.hid ((HB1.out.alloc (by omega) _).grown hgrow (by simp; omega) (fun j hj => by have := (hlb j hj).1; omega))
    have HO9 : Hid (w9.ownsRow (w.heap.size + 2) 3 1 v' (k + 1) (intC (diS Wn M tx ty) (k + 1))) := Lib.hid (by rw [intC_next, HDV.out]; exact hown')
    clear hown' hgrow hnil hlb hk9 hNB KG1 KT1 HB1 HO1 n1 n2 n3 n4 g0 g1 g2 g3 g4
    refine wpList_step (fun K hK => ?_); go_simp; refine hK _ _ ?_; clear hK K
    refine wpList_nil ?_
    go_wp2_with fail
    go_roundg (N - (k + 1))
    case measure => have := HGG.out; omega
    case rel => exact ⟨k + 1, by go_num, by omega, Lib.hid (Nat.le_refl _), HO9, KG9, KT9, HB9, hz9⟩
end Go.Proofs.Ytkkcnhhfdicppaa

namespace Lay
theorem anyN_true' {p : Nat → Bool} : ∀ {n : Nat}, anyN p n = true → ∃ k, k < n ∧ p k = true := by
  intro n
  induction n with
  | zero => intro h; cases h
  | succ n ih =>
    intro h
    simp only [anyN, Bool.or_eq_true] at h
    rcases h with h | h
    · obtain ⟨k, hk, hp⟩ := ih h
      exact ⟨k, by omega, hp⟩
    · exact ⟨n, by omega, h⟩
theorem idx_dm {Wn Hn N x y : Nat} (hN : N = Hn * Wn) (hx : x < Wn) (hy : y < Hn) : y * Wn + x < N ∧ (y * Wn + x) % Wn = x ∧ (y * Wn + x) / Wn = y := by
  refine ⟨?_, by rw [Nat.mul_comm, Nat.mul_add_mod, Nat.mod_eq_of_lt hx], by rw [Nat.mul_comm, Nat.mul_add_div (by omega), Nat.div_eq_of_lt hx]; omega⟩
  have h : (y + 1) * Wn ≤ Hn * Wn := Nat.mul_le_mul_right _ hy
  rw [Nat.succ_mul] at h
  omega
theorem pr_parts {W H M tx ty : Int} {K : Int → Int → Bool} {f : Nat → Int} {N : Nat} (h : prS W H M tx ty K f N = true) : f (ty * W + tx).toNat ≤ 0 ∧ ∀ i, i < N → ∀ d, d < 4 → badS W H M K f i d = false := by
  unfold prS at h
  simp only [Bool.and_eq_true, Bool.not_eq_true', decide_eq_false_iff_not] at h
  exact ⟨by omega, fun i hi d hd => anyN_get (anyN_get h.2 i hi) d hd⟩
/-- One step lowers what a proof says by no more than it costs. -/
theorem pr_step {Wn Hn N : Nat} {M tx ty x y d : Int} {K : Int → Int → Bool} {f : Nat → Int} (hN : N = Hn * Wn) (h : prS (Wn : Int) (Hn : Int) M tx ty K f N = true) (h0 : 0 ≤ d) (h4 : d < 4) (ho : opB (Wn : Int) (Hn : Int) K x y = true) (hq : opB (Wn : Int) (Hn : Int) K (nx x d) (ny y d) = true) :
    f (y * (Wn : Int) + x).toNat ≤ f (ny y d * (Wn : Int) + nx x d).toNat + M := by
  have hon := (opB_iff.1 ho).1
  obtain ⟨xn, rfl⟩ : ∃ k : Nat, x = k := ⟨x.toNat, by omega⟩
  obtain ⟨yn, rfl⟩ : ∃ k : Nat, y = k := ⟨y.toNat, by omega⟩
  obtain ⟨dn, rfl⟩ : ∃ k : Nat, d = k := ⟨d.toNat, by omega⟩
  obtain ⟨i1, i2, i3⟩ := idx_dm hN (show xn < Wn by omega) (show yn < Hn by omega)
  have hb := (pr_parts h).2 (yn * Wn + xn) i1 dn (by omega)
  unfold badS at hb
  rw [Int.toNat_natCast, i2, i3, ho, hq, Bool.true_and, Bool.true_and] at hb
  have e : ((yn : Int) * (Wn : Int) + (xn : Int)).toNat = yn * Wn + xn := by
    rw [show (yn : Int) * (Wn : Int) + (xn : Int) = ((yn * Wn + xn : Nat) : Int) by push_cast; rfl]
    exact Int.toNat_natCast _
  rw [e]
  simp only [decide_eq_false_iff_not] at hb
  omega
/-- No walk costs less than a proof says. -/
theorem pr_low {Wn Hn N : Nat} {M B tx ty : Int} {K : Int → Int → Bool} {f : Nat → Int} (hN : N = Hn * Wn) (hB : 0 ≤ B) (h : prS (Wn : Int) (Hn : Int) M tx ty K f N = true) (ht : opB (Wn : Int) (Hn : Int) K tx ty = true) {x y d v : Int}
    (hw : Wk (opB (Wn : Int) (Hn : Int) K) M B tx ty x y d v) : f (y * (Wn : Int) + x).toNat ≤ v := by
  induction hw with
  | base x y d h0 h4 ho h1 h2 =>
    have hs := pr_step hN h h0 h4 ho (by rw [h1, h2]; exact ht)
    rw [h1, h2] at hs
    have := (pr_parts h).1
    omega
  | step x y d x' y' d' v hw h0 h4 ho h1 h2 ih =>
    subst h1; subst h2
    have hs := pr_step hN h h0 h4 ho hw.dir.2.2
    have := (bd_le (B := B) (i := d) (o := d') hB).1
    omega
theorem far_low {Wn Hn N : Nat} {M B tx ty : Int} {K : Int → Int → Bool} {f : Nat → Int} {F : Int → Int → Int → Option Int} (hN : N = Hn * Wn) (hB : 0 ≤ B) (h : prS (Wn : Int) (Hn : Int) M tx ty K f N = true) (ht : opB (Wn : Int) (Hn : Int) K tx ty = true) (hc : Costs (Wn : Int) (Hn : Int) K M B tx ty F)
    {i : Nat} (hn : 0 ≤ farS F B tx ty ((i % Wn : Nat) : Int) ((i / Wn : Nat) : Int)) : f i ≤ farS F B tx ty ((i % Wn : Nat) : Int) ((i / Wn : Nat) : Int) := by
  have hi := idx_back (Wn := Wn) (i := i)
  have hi' : (((i / Wn : Nat) : Int) * (Wn : Int) + ((i % Wn : Nat) : Int)).toNat = i := by rw [hi]; exact Int.toNat_natCast i
  generalize ((i % Wn : Nat) : Int) = x at *
  generalize ((i / Wn : Nat) : Int) = y at *
  unfold farS at hn ⊢
  by_cases hp : x = tx ∧ y = ty
  · rw [if_pos hp]
    have := (pr_parts h).1
    rw [← hp.1, ← hp.2, hi'] at this
    exact this
  · rw [if_neg hp] at hn ⊢
    rcases chN_is F B x y (-1) 4 with ⟨h1, _⟩ | ⟨d, v, h0, h4, hf, he, _, _⟩
    · have h1' : (chp F B x y (-1)).1 = -1 := h1
      rw [if_pos h1'] at hn
      omega
    · have he' : chp F B x y (-1) = (d, v + bd B (-1) d) := he
      have hd : ¬ (chp F B x y (-1)).1 = -1 := by rw [he']; simp only; omega
      rw [if_neg hd, he']
      simp only
      rw [hf]
      have := pr_low hN hB h ht ((hc.1 x y d).1 v hf).1
      rw [hi'] at this
      exact this
theorem di_ok {Wn Hn N : Nat} {M tx ty : Int} {K : Int → Int → Bool} (hN : N = Hn * Wn) (hW1 : 1 ≤ Wn) (hW9 : Wn ≤ 30) (hH9 : Hn ≤ 30) (hM : 0 ≤ M ∧ M ≤ 1000) (htx : 0 ≤ tx ∧ tx < Wn) (hty : 0 ≤ ty ∧ ty < Hn) :
    anS N ((Wn : Int) * (Hn : Int)) (diS Wn M tx ty) = true ∧ prS (Wn : Int) (Hn : Int) M tx ty K (diS Wn M tx ty) N = true := by
  have key : ∀ i, i < N → 0 ≤ diS Wn M tx ty i ∧ diS Wn M tx ty i ≤ 60000 := fun i hi => by
    have h1 := Nat.mod_lt i (show 0 < Wn by omega)
    have h2 : i / Wn < Hn := Nat.div_lt_of_lt_mul (by rw [Nat.mul_comm, ← hN]; exact hi)
    unfold diS
    generalize i % Wn = p at h1 ⊢
    generalize i / Wn = q at h2 ⊢
    have hm : 0 ≤ max ((p : Int) - tx) (-((p : Int) - tx)) + max ((q : Int) - ty) (-((q : Int) - ty)) ∧ max ((p : Int) - tx) (-((p : Int) - tx)) + max ((q : Int) - ty) (-((q : Int) - ty)) ≤ 60 := by omega
    exact ⟨Int.mul_nonneg hM.1 hm.1, Int.le_trans (Int.mul_le_mul hM.2 hm.2 hm.1 (by omega)) (by decide)⟩
  have hNN : (N : Int) = (Wn : Int) * (Hn : Int) := by rw [hN]; push_cast; exact Int.mul_comm _ _
  refine ⟨?_, ?_⟩
  · unfold anS
    rw [decide_eq_true hNN, Bool.true_and, Bool.not_eq_true']
    cases ha : anyN (fun i => decide (diS Wn M tx ty i < -1000000000 ∨ 1000000000 < diS Wn M tx ty i)) N with
    | false => rfl
    | true =>
      obtain ⟨k, hk, hp⟩ := anyN_true' ha
      have := key k hk
      simp only [decide_eq_true_eq] at hp
      omega
  · obtain ⟨xn, rfl⟩ : ∃ k : Nat, tx = k := ⟨tx.toNat, by omega⟩
    obtain ⟨yn, rfl⟩ : ∃ k : Nat, ty = k := ⟨ty.toNat, by omega⟩
    obtain ⟨t1, t2, t3⟩ := idx_dm hN (show xn < Wn by omega) (show yn < Hn by omega)
    have e : ((yn : Int) * (Wn : Int) + (xn : Int)).toNat = yn * Wn + xn := by
      rw [show (yn : Int) * (Wn : Int) + (xn : Int) = ((yn * Wn + xn : Nat) : Int) by push_cast; rfl]
      exact Int.toNat_natCast _
    have hz : diS Wn M xn yn (yn * Wn + xn) = 0 := by
      unfold diS
      rw [t2, t3]
      simp
    unfold prS
    rw [e, hz]
    rw [show decide ((0 : Int) < 0) = false by decide, Bool.not_false, Bool.true_and, Bool.not_eq_true']
    cases ha : anyN (fun i => anyN (badS (Wn : Int) (Hn : Int) M K (diS Wn M xn yn) i) 4) N with
    | false => rfl
    | true =>
      obtain ⟨i, hi, hp⟩ := anyN_true' ha
      obtain ⟨d, hd, hq⟩ := anyN_true' hp
      unfold badS at hq
      rw [Int.toNat_natCast] at hq
      simp only [Bool.and_eq_true, decide_eq_true_eq] at hq
      obtain ⟨_, hq2, hq3⟩ := hq
      have hon := (opB_iff.1 hq2).1
      have h1 := Nat.mod_lt i (show 0 < Wn by omega)
      have h2 : i / Wn < Hn := Nat.div_lt_of_lt_mul (by rw [Nat.mul_comm, ← hN]; exact hi)
      obtain ⟨px, hpx⟩ : ∃ k : Nat, nx ((i % Wn : Nat) : Int) d = k := ⟨(nx ((i % Wn : Nat) : Int) d).toNat, by omega⟩
      obtain ⟨py, hpy⟩ : ∃ k : Nat, ny ((i / Wn : Nat) : Int) d = k := ⟨(ny ((i / Wn : Nat) : Int) d).toNat, by omega⟩
      rw [hpx, hpy] at hq3 hon
      obtain ⟨j1, j2, j3⟩ := idx_dm hN (show px < Wn by omega) (show py < Hn by omega)
      have ej : ((py : Int) * (Wn : Int) + (px : Int)).toNat = py * Wn + px := by
        rw [show (py : Int) * (Wn : Int) + (px : Int) = ((py * Wn + px : Nat) : Int) by push_cast; rfl]
        exact Int.toNat_natCast _
      rw [ej] at hq3
      unfold diS at hq3
      rw [j2, j3] at hq3
      generalize i % Wn = p at *
      generalize i / Wn = q at *
      have hle : max ((p : Int) - xn) (-((p : Int) - xn)) + max ((q : Int) - yn) (-((q : Int) - yn)) ≤ max ((px : Int) - xn) (-((px : Int) - xn)) + max ((py : Int) - yn) (-((py : Int) - yn)) + 1 := by
        have hdd : d = 0 ∨ d = 1 ∨ d = 2 ∨ d = 3 := by omega
        rcases hdd with rfl | rfl | rfl | rfl <;> simp [nx, ny] at hpx hpy <;> omega
      generalize max ((p : Int) - xn) (-((p : Int) - xn)) + max ((q : Int) - yn) (-((q : Int) - yn)) = A at hle hq3
      generalize max ((px : Int) - xn) (-((px : Int) - xn)) + max ((py : Int) - yn) (-((py : Int) - yn)) = C at hle hq3
      have hmul := Int.mul_le_mul_of_nonneg_left hle hM.1
      rw [Int.mul_add, Int.mul_one] at hmul
      omega
end Lay

namespace Lay
/-- Walks with the directions of their first and of their last step. -/
inductive WkE (op : Int → Int → Bool) (M B : Int) : Int → Int → Int → Int → Int → Int → Int → Prop
  | one (x y d : Int) : 0 ≤ d → d < 4 → op x y = true → WkE op M B x y d (nx x d) (ny y d) d M
  | cons (x y d d' p q e v : Int) : WkE op M B (nx x d) (ny y d) d' p q e v → 0 ≤ d → d < 4 → op x y = true → WkE op M B x y d p q e (v + M + bd B d d')
variable {op : Int → Int → Bool} {M B : Int}
theorem WkE.of {p q x y d v : Int} (h : Wk op M B p q x y d v) : ∃ e, WkE op M B x y d p q e v := by
  induction h with
  | base x y d h0 h4 ho h1 h2 => subst h1; subst h2; exact ⟨d, WkE.one x y d h0 h4 ho⟩
  | step x y d x' y' d' v _ h0 h4 ho h1 h2 ih =>
    obtain ⟨e, ih⟩ := ih
    subst h1; subst h2
    exact ⟨e, WkE.cons x y d d' p q e v ih h0 h4 ho⟩
theorem WkE.to {p q x y d e v : Int} (h : WkE op M B x y d p q e v) : Wk op M B p q x y d v := by
  induction h with
  | one x y d h0 h4 ho => exact Wk.base x y d h0 h4 ho rfl rfl
  | cons x y d d' p q e v _ h0 h4 ho ih => exact Wk.step x y d _ _ d' v ih h0 h4 ho rfl rfl
theorem WkE.dirs {p q x y d e v : Int} (h : WkE op M B x y d p q e v) : (0 ≤ d ∧ d < 4) ∧ (0 ≤ e ∧ e < 4) ∧ op x y = true := by
  induction h with
  | one x y d h0 h4 ho => exact ⟨⟨h0, h4⟩, ⟨h0, h4⟩, ho⟩
  | cons x y d d' p q e v _ h0 h4 ho ih => exact ⟨⟨h0, h4⟩, ih.2.1, ho⟩
theorem WkE.snoc {p q x y d e v f : Int} (h : WkE op M B x y d p q e v) (h0 : 0 ≤ f) (h4 : f < 4) (ho : op p q = true) : WkE op M B x y d (nx p f) (ny q f) f (v + M + bd B e f) := by
  induction h with
  | one x y d g0 g4 go => exact WkE.cons x y d f _ _ f M (WkE.one _ _ f h0 h4 ho) g0 g4 go
  | cons x y d d' p q e v _ g0 g4 go ih =>
    have := WkE.cons x y d d' _ _ f _ (ih ho) g0 g4 go
    rw [show v + M + bd B e f + M + bd B d d' = v + M + bd B d d' + M + bd B e f by omega] at this
    exact this
theorem opp_dir {d : Int} (_h0 : 0 ≤ d) (_h4 : d < 4) : 0 ≤ opp d ∧ opp d < 4 := by unfold opp; omega
theorem bd_opp {d e : Int} (h0 : 0 ≤ d) (h4 : d < 4) (g0 : 0 ≤ e) (g4 : e < 4) : bd B (opp e) (opp d) = bd B d e := by
  unfold bd opp
  by_cases h : d = e
  · subst h; rw [if_neg (by omega), if_neg (by omega)]
  · rw [if_pos (by omega), if_pos (by omega)]
theorem nx_back {d : Int} (h0 : 0 ≤ d) (h4 : d < 4) (x y : Int) : nx (nx x d) (opp d) = x ∧ ny (ny y d) (opp d) = y := by
  have : d = 0 ∨ d = 1 ∨ d = 2 ∨ d = 3 := by omega
  rcases this with rfl | rfl | rfl | rfl <;> simp [nx, ny, opp] <;> omega
theorem WkE.rev {p q x y d e v : Int} (h : WkE op M B x y d p q e v) (hp : op p q = true) : WkE op M B p q (opp e) x y (opp d) v := by
  induction h with
  | one x y d h0 h4 ho =>
    obtain ⟨a, b⟩ := nx_back h0 h4 x y
    have := WkE.one (op := op) (M := M) (B := B) (nx x d) (ny y d) (opp d) (opp_dir h0 h4).1 (opp_dir h0 h4).2 hp
    rw [a, b] at this
    exact this
  | cons x y d d' p q e v hw h0 h4 ho ih =>
    obtain ⟨a, b⟩ := nx_back h0 h4 x y
    obtain ⟨⟨g0, g4⟩, _, go⟩ := hw.dirs
    have := (ih hp).snoc (f := opp d) (opp_dir h0 h4).1 (opp_dir h0 h4).2 go
    rw [a, b, bd_opp h0 h4 g0 g4] at this
    exact this
theorem Wk.rev {p q x y d v : Int} (h : Wk op M B p q x y d v) (hp : op p q = true) : ∃ e, Wk op M B x y p q e v := by
  obtain ⟨e, he⟩ := WkE.of h
  exact ⟨_, (he.rev hp).to⟩
/-- A path is a walk. -/
theorem path_walk {X Y : Nat → Int} {l : Nat} (ho : ∀ k, k < l → op (X k) (Y k) = true) (hs : ∀ k, k < l → wyN X Y k ≠ -1) : ∀ j, j < l → ∃ v, Wk op M B (X l) (Y l) (X (l - 1 - j)) (Y (l - 1 - j)) (wyN X Y (l - 1 - j)) v ∧ coN M B X Y (l - 1 - j) + bd B (pvN X Y (l - 1 - j)) (wyN X Y (l - 1 - j)) + v = coN M B X Y l
  | 0, hj => by
    obtain ⟨k, hk⟩ : ∃ k, l = k + 1 := ⟨l - 1, by omega⟩
    subst hk
    rw [show k + 1 - 1 - 0 = k by omega]
    have hr := wyS_range (X k) (Y k) (X (k + 1)) (Y (k + 1))
    have hn := hs k (by omega)
    have hw : wyN X Y k = wyS (X k) (Y k) (X (k + 1)) (Y (k + 1)) := rfl
    rw [← hw] at hr
    obtain ⟨a, b⟩ := (wyS_iff (x := X k) (y := Y k) (p := X (k + 1)) (q := Y (k + 1)) (d := wyN X Y k) (by omega) (by omega)).1 rfl
    refine ⟨M, Wk.base _ _ _ (by omega) (by omega) (ho k (by omega)) a b, ?_⟩
    show _ = coN M B X Y k + (M + bd B (pvN X Y k) (wyN X Y k))
    omega
  | j + 1, hj => by
    obtain ⟨v, h1, h2⟩ := path_walk ho hs j (by omega)
    obtain ⟨k, hk⟩ : ∃ k, l - 1 - (j + 1) = k := ⟨_, rfl⟩
    have hk1 : l - 1 - j = k + 1 := by omega
    rw [hk1] at h1 h2
    rw [hk]
    have hr := wyS_range (X k) (Y k) (X (k + 1)) (Y (k + 1))
    have hn := hs k (by omega)
    have hw : wyN X Y k = wyS (X k) (Y k) (X (k + 1)) (Y (k + 1)) := rfl
    rw [← hw] at hr
    obtain ⟨a, b⟩ := (wyS_iff (x := X k) (y := Y k) (p := X (k + 1)) (q := Y (k + 1)) (d := wyN X Y k) (by omega) (by omega)).1 rfl
    refine ⟨_, Wk.step _ _ _ _ _ _ _ h1 (by omega) (by omega) (ho k (by omega)) a b, ?_⟩
    have e1 : coN M B X Y (k + 1) = coN M B X Y k + (M + bd B (pvN X Y k) (wyN X Y k)) := rfl
    have e2 : pvN X Y (k + 1) = wyN X Y k := rfl
    rw [e1, e2] at h2
    omega
/-- Different numbers below N. -/
theorem pigeon : ∀ (N n : Nat) (f : Nat → Nat), (∀ i, i < n → f i < N) → (∀ i j, i < j → j < n → f i ≠ f j) → n ≤ N
  | 0, n, f, h, _ => by
    rcases Nat.eq_zero_or_pos n with h0 | h0
    · omega
    · have := h 0 h0; omega
  | N + 1, n, f, h, hi => by
    by_cases he : ∃ i, i < n ∧ f i = N
    · obtain ⟨i0, hi0, hf0⟩ := he
      have := pigeon N (n - 1) (fun i => if i = i0 then f (n - 1) else f i) (fun i hi' => by
        by_cases e : i = i0
        · simp only [e, if_true]
          have h1 := h (n - 1) (by omega)
          have h2 := hi i0 (n - 1) (by omega) (by omega)
          omega
        · simp only [e, if_false]
          have h1 := h i (by omega)
          have h2 : f i ≠ f i0 := by
            rcases Nat.lt_or_ge i i0 with g | g
            · exact hi i i0 g hi0
            · exact fun q => hi i0 i (by omega) (by omega) q.symm
          omega) (fun i j hij hj => by
        by_cases e : i = i0
        · have e2 : ¬ j = i0 := by omega
          simp only [e, e2, if_true, if_false]
          exact fun q => hi j (n - 1) (by omega) (by omega) q.symm
        · by_cases e2 : j = i0
          · simp only [e, e2, if_true, if_false]
            exact hi i (n - 1) (by omega) (by omega)
          · simp only [e, e2, if_false]
            exact hi i j hij (by omega))
      omega
    · have := pigeon N n f (fun i hi' => by
        have := h i hi'
        have : f i ≠ N := fun q => he ⟨i, hi', q⟩
        omega) hi
      omega
/-- A path has no more cells than the grid. -/
theorem path_short {X Y : Nat → Int} {n Wn Hn : Nat} (hr : ∀ i j, i < j → j < n → ¬ (X j = X i ∧ Y j = Y i)) (ho : ∀ k, k < n → 0 ≤ X k ∧ X k < Wn ∧ 0 ≤ Y k ∧ Y k < Hn) : n ≤ Hn * Wn := by
  refine pigeon (Hn * Wn) n (fun k => (Y k).toNat * Wn + (X k).toNat) (fun i hi => ?_) (fun i j hij hj e => ?_)
  · have h := ho i hi
    have h1 : (Y i).toNat + 1 ≤ Hn := by omega
    have h2 := Nat.mul_le_mul_right Wn h1
    rw [Nat.succ_mul] at h2
    omega
  · have h1 := ho i (by omega)
    have h2 := ho j hj
    have ei : ((Y i).toNat * Wn + (X i).toNat) % Wn = (X i).toNat := by rw [Nat.mul_comm, Nat.mul_add_mod, Nat.mod_eq_of_lt (by omega)]
    have ej : ((Y j).toNat * Wn + (X j).toNat) % Wn = (X j).toNat := by rw [Nat.mul_comm, Nat.mul_add_mod, Nat.mod_eq_of_lt (by omega)]
    have di : ((Y i).toNat * Wn + (X i).toNat) / Wn = (Y i).toNat := by rw [Nat.mul_comm, Nat.mul_add_div (by omega), Nat.div_eq_of_lt (by omega)]; omega
    have dj : ((Y j).toNat * Wn + (X j).toNat) / Wn = (Y j).toNat := by rw [Nat.mul_comm, Nat.mul_add_div (by omega), Nat.div_eq_of_lt (by omega)]; omega
    have e : (Y i).toNat * Wn + (X i).toNat = (Y j).toNat * Wn + (X j).toNat := e
    rw [e] at ei di
    exact hr i j hij hj ⟨by omega, by omega⟩
/-- The states of the route. -/
def sq (F : Int → Int → Int → Option Int) (B x y : Int) : Nat → Int × Int × Int
  | 0 => (x, y, -1)
  | k + 1 => (nx (sq F B x y k).1 (chp F B (sq F B x y k).1 (sq F B x y k).2.1 (sq F B x y k).2.2).1, ny (sq F B x y k).2.1 (chp F B (sq F B x y k).1 (sq F B x y k).2.1 (sq F B x y k).2.2).1, (chp F B (sq F B x y k).1 (sq F B x y k).2.1 (sq F B x y k).2.2).1)
def sqX (F : Int → Int → Int → Option Int) (B x y : Int) (k : Nat) : Int := (sq F B x y k).1
def sqY (F : Int → Int → Int → Option Int) (B x y : Int) (k : Nat) : Int := (sq F B x y k).2.1
def sqI (F : Int → Int → Int → Option Int) (B x y : Int) (k : Nat) : Int := (sq F B x y k).2.2
def sqC (F : Int → Int → Int → Option Int) (B x y : Int) (k : Nat) : Int × Int := chp F B (sqX F B x y k) (sqY F B x y k) (sqI F B x y k)
theorem sq_next (F : Int → Int → Int → Option Int) (B x y : Int) (k : Nat) : sqX F B x y (k + 1) = nx (sqX F B x y k) (sqC F B x y k).1 ∧ sqY F B x y (k + 1) = ny (sqY F B x y k) (sqC F B x y k).1 ∧ sqI F B x y (k + 1) = (sqC F B x y k).1 := ⟨rfl, rfl, rfl⟩
/-- What a cheapest way is. -/
theorem chp_is {F : Int → Int → Int → Option Int} {B x y i : Int} (hd : (chp F B x y i).1 ≠ -1) : (0 ≤ (chp F B x y i).1 ∧ (chp F B x y i).1 < 4) ∧ F x y (chp F B x y i).1 = some ((chp F B x y i).2 - bd B i (chp F B x y i).1) ∧ ∀ d v, 0 ≤ d → d < 4 → F x y d = some v → (chp F B x y i).2 ≤ v + bd B i d := by
  rcases chN_is F B x y i 4 with ⟨h1, _⟩ | ⟨d, v, h0, h4, hf, he, hm, _⟩
  · exact absurd h1 hd
  · have he' : chp F B x y i = (d, v + bd B i d) := he
    rw [he']
    simp only
    refine ⟨⟨h0, by omega⟩, by rw [hf]; congr 1; omega, fun d' v' a b c => hm d' v' a (by omega) c⟩
theorem chp_some {F : Int → Int → Int → Option Int} {B x y i d v : Int} (h0 : 0 ≤ d) (h4 : d < 4) (hf : F x y d = some v) : (chp F B x y i).1 ≠ -1 := by
  rcases chN_is F B x y i 4 with ⟨_, h2⟩ | ⟨d', v', g0, g4, _, he, _, _⟩
  · rw [h2 d h0 (by omega)] at hf; cases hf
  · have he' : chp F B x y i = (d', v' + bd B i d') := he
    rw [he']; show d' ≠ -1; omega
section
variable {p q x y : Int} {F : Int → Int → Int → Option Int}
/-- What holds as long as the place is not reached. -/
theorem sq_run (h : Fin7 op M B p q F) (hM : 1 ≤ M) (hB : 0 ≤ B) (h0 : (chp F B x y (-1)).1 ≠ -1) : ∀ k, (∀ j, j ≤ k → ¬ (sqX F B x y j = p ∧ sqY F B x y j = q)) → (sqC F B x y k).1 ≠ -1 ∧ (sqC F B x y k).2 + k ≤ (chp F B x y (-1)).2 ∧ (∀ j, j < k → (sqC F B x y (j + 1)).2 = (sqC F B x y j).2 - (M + bd B (sqI F B x y j) (sqC F B x y j).1))
  | 0, hn => ⟨h0, by show (chp F B x y (-1)).2 + ((0 : Nat) : Int) ≤ _; omega, fun j hj => by omega⟩
  | k + 1, hn => by
    obtain ⟨h1, h2, h3⟩ := sq_run h hM hB h0 k (fun j hj => hn j (by omega))
    have hnk := hn (k + 1) (Nat.le_refl _)
    obtain ⟨g1, g2⟩ := h.goes (x := sqX F B x y k) (y := sqY F B x y k) (i := sqI F B x y k) (d := (sqC F B x y k).1) (l := (sqC F B x y k).2) rfl h1 hnk
    have hb := (bd_le (B := B) (i := sqI F B x y k) (o := (sqC F B x y k).1) hB).1
    have g2' : (sqC F B x y (k + 1)).2 = (sqC F B x y k).2 - (M + bd B (sqI F B x y k) (sqC F B x y k).1) := g2
    refine ⟨g1, by omega, fun j hj => ?_⟩
    by_cases e : j = k
    · subst e; exact g2'
    · exact h3 j (by omega)
theorem first_hit {P : Nat → Prop} (hd : ∀ k, P k ∨ ¬ P k) : ∀ n, (∃ L, L ≤ n ∧ P L ∧ ∀ j, j < L → ¬ P j) ∨ ∀ j, j ≤ n → ¬ P j
  | 0 => by
    rcases hd 0 with h | h
    · exact Or.inl ⟨0, Nat.le_refl _, h, fun j hj => by omega⟩
    · exact Or.inr fun j hj => by obtain rfl : j = 0 := by omega
                                  exact h
  | n + 1 => by
    rcases first_hit hd n with ⟨L, h1, h2, h3⟩ | h
    · exact Or.inl ⟨L, by omega, h2, h3⟩
    · rcases hd (n + 1) with g | g
      · exact Or.inl ⟨n + 1, Nat.le_refl _, g, fun j hj => h j (by omega)⟩
      · refine Or.inr fun j hj => ?_
        by_cases e : j = n + 1
        · rw [e]; exact g
        · exact h j (by omega)
/-- The place is reached. -/
theorem sq_hit (h : Fin7 op M B p q F) (hM : 1 ≤ M) (hB : 0 ≤ B) (h0 : (chp F B x y (-1)).1 ≠ -1) : ∃ L, (sqX F B x y L = p ∧ sqY F B x y L = q) ∧ ∀ j, j < L → ¬ (sqX F B x y j = p ∧ sqY F B x y j = q) := by
  rcases first_hit (P := fun k => sqX F B x y k = p ∧ sqY F B x y k = q) (fun k => Decidable.em _) ((chp F B x y (-1)).2.toNat + 1) with ⟨L, _, h1, h2⟩ | hn
  · exact ⟨L, h1, h2⟩
  · obtain ⟨g1, g2, _⟩ := sq_run h hM hB h0 ((chp F B x y (-1)).2.toNat + 1) hn
    obtain ⟨_, hf, _⟩ := chp_is g1
    have hl := (((h _ _ _).1 _ hf).1).low (by omega) hB
    have hb := (bd_le (B := B) (i := sqI F B x y ((chp F B x y (-1)).2.toNat + 1)) (o := (sqC F B x y ((chp F B x y (-1)).2.toNat + 1)).1) hB).1
    have e : (sqC F B x y ((chp F B x y (-1)).2.toNat + 1)).2 = (chp F B (sqX F B x y ((chp F B x y (-1)).2.toNat + 1)) (sqY F B x y ((chp F B x y (-1)).2.toNat + 1)) (sqI F B x y ((chp F B x y (-1)).2.toNat + 1))).2 := rfl
    have e1 : (sqC F B x y ((chp F B x y (-1)).2.toNat + 1)).1 = (chp F B (sqX F B x y ((chp F B x y (-1)).2.toNat + 1)) (sqY F B x y ((chp F B x y (-1)).2.toNat + 1)) (sqI F B x y ((chp F B x y (-1)).2.toNat + 1))).1 := rfl
    rw [← e, ← e1] at hl
    omega
end
end Lay

namespace Lay
variable {op : Int → Int → Bool} {M B p q x y : Int} {F : Int → Int → Int → Option Int}
/-- What is known of a state that is on the way. -/
theorem sq_at (h : Fin7 op M B p q F) (hM : 1 ≤ M) (hB : 0 ≤ B) (h0 : (chp F B x y (-1)).1 ≠ -1) {L : Nat} (hn : ∀ j, j < L → ¬ (sqX F B x y j = p ∧ sqY F B x y j = q)) {k : Nat} (hk : k < L) :
    (0 ≤ (sqC F B x y k).1 ∧ (sqC F B x y k).1 < 4) ∧ F (sqX F B x y k) (sqY F B x y k) (sqC F B x y k).1 = some ((sqC F B x y k).2 - bd B (sqI F B x y k) (sqC F B x y k).1) ∧
    (∀ d v, 0 ≤ d → d < 4 → F (sqX F B x y k) (sqY F B x y k) d = some v → (sqC F B x y k).2 ≤ v + bd B (sqI F B x y k) d) ∧
    wyN (sqX F B x y) (sqY F B x y) k = (sqC F B x y k).1 ∧ pvN (sqX F B x y) (sqY F B x y) k = sqI F B x y k ∧ op (sqX F B x y k) (sqY F B x y k) = true := by
  have wy : ∀ j, j < L → wyN (sqX F B x y) (sqY F B x y) j = (sqC F B x y j).1 := fun j hj => by
    obtain ⟨g, _⟩ := sq_run h hM hB h0 j (fun i hi => hn i (by omega))
    obtain ⟨hd, _⟩ := chp_is g
    exact (wyS_iff hd.1 hd.2).2 ⟨rfl, rfl⟩
  obtain ⟨g, _⟩ := sq_run h hM hB h0 k (fun i hi => hn i (by omega))
  obtain ⟨hd, hf, hm⟩ := chp_is g
  refine ⟨hd, hf, hm, wy k hk, ?_, (h.can hf).1⟩
  cases k with
  | zero => rfl
  | succ j => exact wy j (by omega)
theorem bd_le' {i o : Int} (hB : 0 ≤ B) : 0 ≤ bd B i o ∧ bd B i o ≤ B := by unfold bd; split <;> omega
/-- From a state on: straight on, or a bend is in between. -/
theorem sq_far (h : Fin7 op M B p q F) (hM : 1 ≤ M) (hB : 0 ≤ B) (h0 : (chp F B x y (-1)).1 ≠ -1) {L : Nat} (hn : ∀ j, j < L → ¬ (sqX F B x y j = p ∧ sqY F B x y j = q)) (a : Nat) : ∀ m, a + m < L →
    ((sqC F B x y a).2 - bd B (sqI F B x y a) (sqC F B x y a).1 ≥ (sqC F B x y (a + m)).2 - bd B (sqI F B x y (a + m)) (sqC F B x y (a + m)).1 + m ∧ (sqC F B x y (a + m)).1 = (sqC F B x y a).1 ∧
      (((sqC F B x y a).1 = 0 ∧ sqX F B x y (a + m) = sqX F B x y a + m) ∨ ((sqC F B x y a).1 = 1 ∧ sqY F B x y (a + m) = sqY F B x y a + m) ∨ ((sqC F B x y a).1 = 2 ∧ sqX F B x y (a + m) = sqX F B x y a - m) ∨ ((sqC F B x y a).1 = 3 ∧ sqY F B x y (a + m) = sqY F B x y a - m))) ∨
    (sqC F B x y a).2 - bd B (sqI F B x y a) (sqC F B x y a).1 ≥ (sqC F B x y (a + m)).2 - bd B (sqI F B x y (a + m)) (sqC F B x y (a + m)).1 + m + B
  | 0, hk => by
    obtain ⟨hd, _⟩ := sq_at h hM hB h0 hn (k := a) (by omega)
    refine Or.inl ⟨by show _ ≥ _ + ((0 : Nat) : Int); simp only [Nat.add_zero]; omega, rfl, ?_⟩
    have : (sqC F B x y a).1 = 0 ∨ (sqC F B x y a).1 = 1 ∨ (sqC F B x y a).1 = 2 ∨ (sqC F B x y a).1 = 3 := by omega
    simp only [Nat.add_zero]
    rcases this with e | e | e | e <;> simp [e]
  | m + 1, hk => by
    have ih := sq_far h hM hB h0 hn a m (by omega)
    obtain ⟨_, _, hr⟩ := sq_run h hM hB h0 (a + m + 1) (fun i hi => hn i (by omega))
    have e1 := hr (a + m) (by omega)
    obtain ⟨n1, n2, n3⟩ := sq_next F B x y (a + m)
    have e3 : a + (m + 1) = a + m + 1 := by omega
    rw [e3]
    rw [n3]
    have hb := bd_le' (i := (sqC F B x y (a + m)).1) (o := (sqC F B x y (a + m + 1)).1) hB
    by_cases hbe : (sqC F B x y (a + m + 1)).1 = (sqC F B x y (a + m)).1
    · rcases ih with ⟨i1, i2, i3⟩ | ih
      · refine Or.inl ⟨by push_cast; omega, by rw [hbe, i2], ?_⟩
        rw [n1, n2, i2]
        rcases i3 with ⟨j1, j2⟩ | ⟨j1, j2⟩ | ⟨j1, j2⟩ | ⟨j1, j2⟩
        · refine Or.inl ⟨j1, ?_⟩; rw [j1, j2]; simp [nx]; omega
        · refine Or.inr (Or.inl ⟨j1, ?_⟩); rw [j1, j2]; simp [ny]; omega
        · refine Or.inr (Or.inr (Or.inl ⟨j1, ?_⟩)); rw [j1, j2]; simp [nx]; omega
        · refine Or.inr (Or.inr (Or.inr ⟨j1, ?_⟩)); rw [j1, j2]; simp [ny]; omega
      · exact Or.inr (by push_cast; omega)
    · obtain ⟨hd, _⟩ := sq_at h hM hB h0 hn (k := a + m) (by omega)
      obtain ⟨hd', _⟩ := sq_at h hM hB h0 hn (k := a + m + 1) (by omega)
      have hbB : bd B (sqC F B x y (a + m)).1 (sqC F B x y (a + m + 1)).1 = B := by unfold bd; rw [if_pos ⟨by omega, by omega, fun e => hbe e.symm⟩]
      refine Or.inr ?_
      rcases ih with ⟨i1, _⟩ | ih <;> (push_cast; omega)
/-- The route is a path, costs the least, and is what rt says. -/
theorem sq_path (h : Fin7 op M B p q F) (hM : 1 ≤ M) (hB : 0 ≤ B) (hne : ¬ (x = p ∧ y = q)) (h0 : (chp F B x y (-1)).1 ≠ -1) (hop : op p q = true) :
    ∃ L, 1 ≤ L ∧ (sqX F B x y L = p ∧ sqY F B x y L = q) ∧ (∀ i j, i < j → j < L + 1 → ¬ (sqX F B x y j = sqX F B x y i ∧ sqY F B x y j = sqY F B x y i)) ∧ (∀ k, k < L → wyN (sqX F B x y) (sqY F B x y) k ≠ -1) ∧ (∀ k, k < L + 1 → op (sqX F B x y k) (sqY F B x y k) = true) ∧
      coN M B (sqX F B x y) (sqY F B x y) L = (chp F B x y (-1)).2 ∧ rt F M B p q L x y (-1) = some ((List.range L).map fun j => (sqX F B x y (j + 1), sqY F B x y (j + 1)), (chp F B x y (-1)).2) := by
  obtain ⟨L, hL, hn⟩ := sq_hit h hM hB h0
  have hL1 : 1 ≤ L := by
    rcases Nat.eq_zero_or_pos L with e | e
    · subst e; exact absurd hL hne
    · exact e
  have hat := fun k (hk : k < L) => sq_at h hM hB h0 hn hk
  have hco : ∀ k, k < L → coN M B (sqX F B x y) (sqY F B x y) k + (sqC F B x y k).2 = (chp F B x y (-1)).2 := by
    intro k
    induction k with
    | zero => intro _; show 0 + (chp F B x y (-1)).2 = _; omega
    | succ k ih =>
      intro hk
      have i1 := ih (by omega)
      obtain ⟨_, _, _, w1, w2, _⟩ := hat k (by omega)
      obtain ⟨_, _, hr⟩ := sq_run h hM hB h0 (k + 1) (fun i hi => hn i (by omega))
      have e1 := hr k (by omega)
      have e2 : coN M B (sqX F B x y) (sqY F B x y) (k + 1) = coN M B (sqX F B x y) (sqY F B x y) k + (M + bd B (pvN (sqX F B x y) (sqY F B x y) k) (wyN (sqX F B x y) (sqY F B x y) k)) := rfl
      rw [w1, w2] at e2
      omega
  have hend : coN M B (sqX F B x y) (sqY F B x y) L = (chp F B x y (-1)).2 := by
    obtain ⟨k, rfl⟩ : ∃ k, L = k + 1 := ⟨L - 1, by omega⟩
    obtain ⟨hd, hf, _, w1, w2, ho⟩ := hat k (by omega)
    have i1 := hco k (by omega)
    have e2 : coN M B (sqX F B x y) (sqY F B x y) (k + 1) = coN M B (sqX F B x y) (sqY F B x y) k + (M + bd B (pvN (sqX F B x y) (sqY F B x y) k) (wyN (sqX F B x y) (sqY F B x y) k)) := rfl
    rw [w1, w2] at e2
    have l1 := ((h _ _ _).1 _ hf).2 _ (Wk.base _ _ _ hd.1 hd.2 ho hL.1 hL.2)
    have l2 := (((h _ _ _).1 _ hf).1).low (by omega) hB
    omega
  refine ⟨L, hL1, hL, fun a b hab hb => ?_, fun k hk => ?_, fun k hk => ?_, hend, ?_⟩
  · intro e
    by_cases hbL : b = L
    · subst hbL
      exact hn a hab ⟨e.1.symm.trans hL.1, e.2.symm.trans hL.2⟩
    · obtain ⟨m, rfl⟩ : ∃ m, b = a + m := ⟨b - a, by omega⟩
      obtain ⟨hd, hf, _⟩ := hat (a + m) (by omega)
      obtain ⟨_, _, hm, _⟩ := hat a (by omega)
      rw [e.1, e.2] at hf
      have g1 := hm _ _ hd.1 hd.2 hf
      have g2 := bd_le' (i := sqI F B x y a) (o := (sqC F B x y (a + m)).1) hB
      have g3 := bd_le' (i := sqI F B x y a) (o := (sqC F B x y a).1) hB
      rcases sq_far h hM hB h0 hn a m (by omega) with ⟨_, _, i3⟩ | i
      · rcases i3 with ⟨_, j2⟩ | ⟨_, j2⟩ | ⟨_, j2⟩ | ⟨_, j2⟩ <;> omega
      · omega
  · obtain ⟨hd, _, _, w1, _⟩ := hat k hk
    rw [w1]; omega
  · by_cases e : k = L
    · subst e; rw [hL.1, hL.2]; exact hop
    · exact (hat k (by omega)).2.2.2.2.2
  · have hrt : ∀ m k, k + m = L → rt F M B p q m (sqX F B x y k) (sqY F B x y k) (sqI F B x y k) = some ((List.range m).map fun j => (sqX F B x y (k + 1 + j), sqY F B x y (k + 1 + j)), (chp F B x y (-1)).2 - coN M B (sqX F B x y) (sqY F B x y) k) := by
      intro m
      induction m with
      | zero =>
        intro k hk
        obtain rfl : k = L := by omega
        unfold rt
        rw [if_pos hL, hend]
        simp
      | succ m ih =>
        intro k hk
        have i1 := ih (k + 1) (by omega)
        obtain ⟨hd, _, _, w1, w2, _⟩ := hat k (by omega)
        obtain ⟨g, _⟩ := sq_run h hM hB h0 k (fun i hi => hn i (by omega))
        have e2 : coN M B (sqX F B x y) (sqY F B x y) (k + 1) = coN M B (sqX F B x y) (sqY F B x y) k + (M + bd B (pvN (sqX F B x y) (sqY F B x y) k) (wyN (sqX F B x y) (sqY F B x y) k)) := rfl
        rw [w1, w2] at e2
        unfold rt
        have g9 : ¬ (chp F B (sqX F B x y k) (sqY F B x y k) (sqI F B x y k)).1 = -1 := g
        rw [if_neg (hn k (by omega)), if_neg g9]
        have i2 : rt F M B p q m (nx (sqX F B x y k) (chp F B (sqX F B x y k) (sqY F B x y k) (sqI F B x y k)).1) (ny (sqY F B x y k) (chp F B (sqX F B x y k) (sqY F B x y k) (sqI F B x y k)).1) (chp F B (sqX F B x y k) (sqY F B x y k) (sqI F B x y k)).1 = _ := i1
        rw [i2]
        simp only
        rw [List.range_succ_eq_map, List.map_cons, List.map_map]
        have hfun : ((fun j => (sqX F B x y (k + 1 + j), sqY F B x y (k + 1 + j))) ∘ Nat.succ) = fun j => (sqX F B x y (k + 1 + 1 + j), sqY F B x y (k + 1 + 1 + j)) := by
          funext j
          show (sqX F B x y (k + 1 + (j + 1)), sqY F B x y (k + 1 + (j + 1))) = _
          rw [show k + 1 + (j + 1) = k + 1 + 1 + j by omega]
        rw [hfun]
        refine congrArg some (Prod.ext rfl ?_)
        show _ - coN M B (sqX F B x y) (sqY F B x y) (k + 1) + (M + bd B (sqI F B x y k) (sqC F B x y k).1) = _
        omega
    have := hrt L 0 (by omega)
    simp only [Nat.zero_add] at this
    have h00 : coN M B (sqX F B x y) (sqY F B x y) 0 = 0 := rfl
    rw [h00, Int.sub_zero] at this
    have hfun : (fun j => (sqX F B x y (1 + j), sqY F B x y (1 + j))) = fun j => (sqX F B x y (j + 1), sqY F B x y (j + 1)) := by
      funext j; rw [Nat.add_comm 1 j]
    rw [hfun] at this
    exact this
end Lay

namespace Lay
theorem bd_nil (B o : Int) : bd B (-1) o = 0 := by unfold bd; rw [if_neg (fun h => h.1 rfl)]
theorem rt_up {M B p q : Int} {F : Int → Int → Int → Option Int} {x y i : Int} {r : List (Int × Int) × Int} {n : Nat} (h : rt F M B p q n x y i = some r) : ∀ k, rt F M B p q (n + k) x y i = some r
  | 0 => h
  | k + 1 => rt_more _ _ _ _ _ (rt_up h k)
theorem rt_uniq {M B p q : Int} {F : Int → Int → Int → Option Int} {x y i : Int} {r s : List (Int × Int) × Int} {n m : Nat} (h : rt F M B p q n x y i = some r) (g : rt F M B p q m x y i = some s) : r = s := by
  have h1 := rt_up h m
  have h2 := rt_up g n
  rw [Nat.add_comm m n, h1] at h2
  exact Option.some.inj h2
/-- All that the law asks of a cheapest route. -/
theorem cheap_math {Wn Hn : Nat} {K : Int → Int → Bool} {M B : Int} {X Y : Nat → Int} {l : Nat} {F : Int → Int → Int → Option Int} (hW : Wn ≤ 30) (hH : Hn ≤ 30) (hM : 1 ≤ M ∧ M ≤ 1000) (hB : 0 ≤ B ∧ B ≤ 1000)
    (ho : opA (Wn : Int) (Hn : Int) K X Y (l + 1) = true) (hs : ∀ k, k < l → wyN X Y k ≠ -1) (hF : Costs (Wn : Int) (Hn : Int) K M B (X l) (Y l) F) :
    ∃ (nn L : Nat) (r : List (Int × Int)) (c : Int) (X' Y' : Nat → Int), rt F M B (X l) (Y l) nn (X 0) (Y 0) (-1) = some (r, c) ∧ (X 0, Y 0) :: r = prL X' Y' (L + 1) ∧ r.length = L ∧ L + 1 ≤ 900 ∧ chE (Wn : Int) (Hn : Int) K X' Y' (L + 1) = 0 ∧
      (X' 0 = X 0 ∧ Y' 0 = Y 0 ∧ X' L = X l ∧ Y' L = Y l) ∧ coN M B X' Y' L = c ∧ c ≤ coN M B X Y l ∧ (0 ≤ c ∧ c ≤ 9000000) ∧ farS F B (X l) (Y l) (X 0) (Y 0) = c ∧ ∀ G, Costs (Wn : Int) (Hn : Int) K M B (X 0) (Y 0) G → farS G B (X 0) (Y 0) (X l) (Y l) = c := by
  have hop := opA_iff.1 ho
  by_cases he : X 0 = X l ∧ Y 0 = Y l
  · refine ⟨0, 0, [], 0, fun _ => X 0, fun _ => Y 0, ?_, rfl, rfl, by omega, ?_, ⟨rfl, rfl, he.1, he.2⟩, rfl, (coN_le (by omega) (by omega) l).1, by omega, ?_, fun G _ => ?_⟩
    · unfold rt; rw [if_pos he]
    · refine chE_ok.2 ⟨paB_iff.2 ⟨by omega, fun i j hi hj => by omega, fun k hk => by omega⟩, opA_iff.2 fun k hk => hop 0 (by omega)⟩
    · unfold farS; rw [if_pos he]
    · unfold farS; rw [if_pos ⟨he.1.symm, he.2.symm⟩]
  have hl : 1 ≤ l := by
    rcases Nat.eq_zero_or_pos l with h | h
    · subst h; exact absurd ⟨rfl, rfl⟩ he
    · exact h
  obtain ⟨v, hv, hv2⟩ := path_walk (op := opB (Wn : Int) (Hn : Int) K) (M := M) (B := B) (X := X) (Y := Y) (l := l) (fun k hk => hop k (by omega)) hs (l - 1) (by omega)
  rw [show l - 1 - (l - 1) = 0 by omega] at hv hv2
  have hv3 : v = coN M B X Y l := by
    have h1 : coN M B X Y 0 = 0 := rfl
    have h2 : bd B (pvN X Y 0) (wyN X Y 0) = 0 := bd_nil _ _
    rw [h1, h2] at hv2
    omega
  have hfin := hF.1
  obtain ⟨u, hu⟩ := (hfin _ _ _).2 v hv
  have huv := ((hfin _ _ _).1 u hu).2 v hv
  obtain ⟨d0, d4, _⟩ := hv.dir
  have hc0 := chp_some (B := B) (i := -1) d0 d4 hu
  obtain ⟨hd, hf, hm⟩ := chp_is hc0
  rw [bd_nil, Int.sub_zero] at hf
  have hcu := hm _ _ d0 d4 hu
  rw [bd_nil] at hcu
  have hlast := hop l (by omega)
  obtain ⟨L, hL1, hL2, hrep, hst, hopL, hco, hrt⟩ := sq_path hfin hM.1 hB.1 he hc0 hlast
  have hwk := ((hfin _ _ _).1 _ hf).1
  have hlow := hwk.low (by omega) hB.1
  have h8 := hF.2 _ _ _ _ hf
  have hsh : L + 1 ≤ Hn * Wn := path_short hrep (fun k hk => (opB_iff.1 (hopL k hk)).1)
  have h900 : Hn * Wn ≤ 900 := Nat.le_trans (Nat.mul_le_mul hH hW) (by decide)
  refine ⟨L, L, _, _, sqX F B (X 0) (Y 0), sqY F B (X 0) (Y 0), hrt, ?_, by simp, by omega, ?_, ⟨rfl, rfl, hL2.1, hL2.2⟩, hco, by omega, by omega, ?_, fun G hG => ?_⟩
  · unfold prL
    rw [List.range_succ_eq_map, List.map_cons, List.map_map]
    rfl
  · exact chE_ok.2 ⟨paB_iff.2 ⟨by omega, hrep, fun k hk => hst k (by omega)⟩, opA_iff.2 hopL⟩
  · unfold farS
    rw [if_neg he, if_neg hc0, hf]
    rfl
  · obtain ⟨e, hwe⟩ := hwk.rev hlast
    obtain ⟨u1, hu1⟩ := (hG.1 _ _ _).2 _ hwe
    have g1 := ((hG.1 _ _ _).1 u1 hu1).2 _ hwe
    obtain ⟨e0, e4, _⟩ := hwe.dir
    have hg0 := chp_some (B := B) (i := -1) e0 e4 hu1
    obtain ⟨_, hgf, hgm⟩ := chp_is hg0
    rw [bd_nil, Int.sub_zero] at hgf
    have g2 := hgm _ _ e0 e4 hu1
    rw [bd_nil] at g2
    obtain ⟨e', hwr⟩ := ((hG.1 _ _ _).1 _ hgf).1.rev (hop 0 (by omega))
    obtain ⟨u2, hu2⟩ := (hfin _ _ _).2 _ hwr
    have g3 := ((hfin _ _ _).1 u2 hu2).2 _ hwr
    obtain ⟨f0, f4, _⟩ := hwr.dir
    have g4 := hm _ _ f0 f4 hu2
    rw [bd_nil] at g4
    unfold farS
    rw [if_neg (fun h => he ⟨h.1.symm, h.2.symm⟩), if_neg hg0, hgf]
    show (chp G B (X l) (Y l) (-1)).2 = _
    omega
end Lay

namespace Lay
/-- A route that the table of least costs gives. -/
theorem route_math {Wn Hn : Nat} {K : Int → Int → Bool} {M B fx fy tx ty : Int} {F : Int → Int → Int → Option Int} (hW : Wn ≤ 30) (hH : Hn ≤ 30) (hM : 1 ≤ M ∧ M ≤ 1000) (hB : 0 ≤ B ∧ B ≤ 1000) (hof : opB (Wn : Int) (Hn : Int) K fx fy = true) (hot : opB (Wn : Int) (Hn : Int) K tx ty = true)
    (hF : Costs (Wn : Int) (Hn : Int) K M B tx ty F) {nn : Nat} {l : List (Int × Int)} {c : Int} (hr : rt F M B tx ty nn fx fy (-1) = some (l, c)) :
    ∃ (L : Nat) (X Y : Nat → Int), (fx, fy) :: l = prL X Y (L + 1) ∧ l.length = L ∧ L + 1 ≤ Hn * Wn ∧ chE (Wn : Int) (Hn : Int) K X Y (L + 1) = 0 ∧ X 0 = fx ∧ Y 0 = fy ∧ X L = tx ∧ Y L = ty ∧ coN M B X Y L = c ∧ farS F B tx ty fx fy = c := by
  have hin := (opB_iff.1 hof).1
  by_cases he : fx = tx ∧ fy = ty
  · obtain ⟨rfl, rfl⟩ := he
    obtain ⟨rfl, rfl⟩ := rt_at hr
    refine ⟨0, fun _ => fx, fun _ => fy, rfl, rfl, ?_, chE_ok.2 ⟨paB_iff.2 ⟨⟨by omega, by omega⟩, fun i j h1 h2 => by omega, fun k hk => by omega⟩, opA_iff.2 fun k _ => hof⟩, rfl, rfl, rfl, rfl, rfl, ?_⟩
    · have h1 : 1 * 1 ≤ Hn * Wn := Nat.mul_le_mul (by omega) (by omega)
      omega
    · unfold farS; rw [if_pos ⟨rfl, rfl⟩]
  obtain ⟨_, _, _, h0, _⟩ := rt_go he hr
  obtain ⟨L, hL1, ⟨e1, e2⟩, h3, h4, h5, h6, h7⟩ := sq_path hF.1 hM.1 hB.1 he h0 hot
  have hu := rt_uniq hr h7
  obtain ⟨rfl, rfl⟩ : l = (List.range L).map (fun j => (sqX F B fx fy (j + 1), sqY F B fx fy (j + 1))) ∧ c = (chp F B fx fy (-1)).2 := by simpa using hu
  have hs : L + 1 ≤ Hn * Wn := path_short (X := sqX F B fx fy) (Y := sqY F B fx fy) h3 (fun k hk => (opB_iff.1 (h5 k hk)).1)
  have hs9 : Hn * Wn ≤ 900 := Nat.le_trans (Nat.mul_le_mul hH hW) (by decide)
  refine ⟨L, sqX F B fx fy, sqY F B fx fy, ?_, by simp, hs, chE_ok.2 ⟨paB_iff.2 ⟨⟨by omega, by omega⟩, h3, fun k hk => h4 k (by omega)⟩, opA_iff.2 h5⟩, rfl, rfl, e1, e2, h6, ?_⟩
  · unfold prL
    rw [List.range_succ_eq_map, List.map_cons, List.map_map]
    rfl
  · obtain ⟨_, g2, _⟩ := chp_is h0
    unfold farS
    rw [if_neg he, if_neg h0, g2, bd_nil]
    show (chp F B fx fy (-1)).2 - 0 = _
    omega
/-- Where there is no way, the table says so. -/
theorem route_none {B fx fy tx ty : Int} {F : Int → Int → Int → Option Int} (he : ¬ (fx = tx ∧ fy = ty)) (h0 : (chp F B fx fy (-1)).1 = -1) : farS F B tx ty fx fy = -1 := by
  unfold farS; rw [if_neg he, if_pos h0]
/-- There is a way, or there is none. -/
theorem route_way {op : Int → Int → Bool} {M B fx fy tx ty : Int} {F : Int → Int → Int → Option Int} (hF : Fin7 op M B tx ty F) (h8 : ∀ x y d v, F x y d = some v → v ≤ 8000000) (hM : 1 ≤ M ∧ M ≤ 1000) (hB : 0 ≤ B ∧ B ≤ 1000) :
    (∃ nn l c, rt F M B tx ty nn fx fy (-1) = some (l, c) ∧ c ≤ 9000000) ∨ (¬ (fx = tx ∧ fy = ty) ∧ (chp F B fx fy (-1)).1 = -1) := by
  by_cases hp : fx = tx ∧ fy = ty
  · obtain ⟨rfl, rfl⟩ := hp
    exact Or.inl ⟨0, [], 0, by unfold rt; rw [if_pos ⟨rfl, rfl⟩], by decide⟩
  by_cases h : (chp F B fx fy (-1)).1 = -1
  · exact Or.inr ⟨hp, h⟩
  refine Or.inl ?_
  obtain ⟨l, hl⟩ := hF.rt_some (by omega) (by omega) (chp F B fx fy (-1)).2.toNat fx fy (-1) hp h (by omega)
  refine ⟨_, l, _, hl, ?_⟩
  rcases chN_is F B fx fy (-1) 4 with ⟨h1, _⟩ | ⟨d1, v1, _, _, hf, he, _, _⟩
  · exact absurd h1 h
  · have he' : chp F B fx fy (-1) = (d1, v1 + bd B (-1) d1) := he
    have h88 := h8 _ _ _ _ hf
    have hb := (bd_le (i := -1) (o := d1) (show 0 ≤ B by omega)).2
    rw [he']
    simp only
    omega
end Lay
