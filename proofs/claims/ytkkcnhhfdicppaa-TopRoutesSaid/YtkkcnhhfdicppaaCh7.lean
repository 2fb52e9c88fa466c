import Derived.Test.YtkkcnhhfdicppaaCo7
namespace Lay
theorem ch1_none {F : Int → Int → Int → Option Int} {B x y i d : Int} {b : Int × Int} (h : F x y d = none) : ch1 F B x y i b d = b := by unfold ch1; rw [h]
theorem ch1_yes {F : Int → Int → Int → Option Int} {B x y i d c : Int} {b : Int × Int} (h : F x y d = some c) (hc : b.1 = -1 ∨ c + bd B i d < b.2) : ch1 F B x y i b d = (d, c + bd B i d) := by unfold ch1; rw [h]; simp only; rw [if_pos hc]
theorem ch1_no {F : Int → Int → Int → Option Int} {B x y i d c : Int} {b : Int × Int} (h : F x y d = some c) (hc : ¬ (b.1 = -1 ∨ c + bd B i d < b.2)) : ch1 F B x y i b d = b := by unfold ch1; rw [h]; simp only; rw [if_neg hc]
end Lay
namespace Go.Proofs.Ytkkcnhhfdicppaa
open Go.RowKit Lay
set_option maxRecDepth 100000 in
set_option maxHeartbeats 8000000 in
theorem cheapest_any (W H M B x y i : Int) (n cp m b N : Nat) (ao : Option Addr) (F : Int → Int → Int → Option Int) (w : World)
    (hs : SMap w b N F) (hF : ∀ x y d v, F x y d = some v → 0 ≤ v ∧ v ≤ 8000000) (hB : 0 ≤ B ∧ B ≤ 1000) (hx : 0 ≤ x ∧ x < 30) (hy : 0 ≤ y ∧ y < 30) :
    Calls Try.prog 62 #[bdV W H M B ao n cp m, .map (some b), .agg #[.int .i64 x, .int .i64 y], .int .i64 i] w fun e w' => e = .returned (.int .i64 (chp F B x y i).1) ∧ Below w.heap.size w w' := by
  have HS0 := Lib.hid hs
  have hsl := hs.lt
  have HF := Lib.hid hF
  clear hs hF
  go_enter Try.func62, Try.ntmps62
  go_wp2_with fail
  have HB1 : Hid (Below w.heap.size w ((w.alloc (.cells #[.int .i64 W, .int .i64 H, .int .i64 M, .int .i64 B, .slice ao n cp, .map (some m)] 68)).alloc (.cells #[.int .i64 x, .int .i64 y] 26))) := Lib.hid (bal (bal (Below.refl _ _) _) _)
  have K4 : Hid (((w.alloc (.cells #[.int .i64 W, .int .i64 H, .int .i64 M, .int .i64 B, .slice ao n cp, .map (some m)] 68)).alloc (.cells #[.int .i64 x, .int .i64 y] 26)).heap[w.heap.size]? = some (.cells #[.int .i64 W, .int .i64 H, .int .i64 M, .int .i64 B, .slice ao n cp, .map (some m)] 68 (0, 0))) := Lib.hid ((Below.heap_alloc _ _ _ (by simp)).trans (heap_alloc_new w _))
  have K6 : Hid (((w.alloc (.cells #[.int .i64 W, .int .i64 H, .int .i64 M, .int .i64 B, .slice ao n cp, .map (some m)] 68)).alloc (.cells #[.int .i64 x, .int .i64 y] 26)).heap[w.heap.size + 1]? = some (.cells #[.int .i64 x, .int .i64 y] 26 (0, 0))) := Lib.hid (by have h := heap_alloc_new (w.alloc (.cells #[.int .i64 W, .int .i64 H, .int .i64 M, .int .i64 B, .slice ao n cp, .map (some m)] 68)) (.cells #[.int .i64 x, .int .i64 y] 26); rwa [World.size_alloc] at h)
  have HS1 : Hid (SMap ((w.alloc (.cells #[.int .i64 W, .int .i64 H, .int .i64 M, .int .i64 B, .slice ao n cp, .map (some m)] 68)).alloc (.cells #[.int .i64 x, .int .i64 y] 26)) b N F) := Lib.hid (HS0.out.keep (HB1.out.block _ hsl))
  have hz : w.heap.size + 1 < ((w.alloc (.cells #[.int .i64 W, .int .i64 H, .int .i64 M, .int .i64 B, .slice ao n cp, .map (some m)] 68)).alloc (.cells #[.int .i64 x, .int .i64 y] 26)).heap.size := by simp
  clear HS0
  generalize ((w.alloc (.cells #[.int .i64 W, .int .i64 H, .int .i64 M, .int .i64 B, .slice ao n cp, .map (some m)] 68)).alloc (.cells #[.int .i64 x, .int .i64 y] 26)) = wz at *
  go_loopw [9, 10, 14] (fun v9 v10 v14 wr => ∃ k : Nat, v9 = .int .i64 (chN F B x y i k).1 ∧ v10 = .int .i64 (chN F B x y i k).2 ∧ v14 = .int .i64 k ∧ k ≤ 4 ∧ Hid (wr.heap[w.heap.size]? = some (.cells #[.int .i64 W, .int .i64 H, .int .i64 M, .int .i64 B, .slice ao n cp, .map (some m)] 68 (0, 0))) ∧ Hid (wr.heap[w.heap.size + 1]? = some (.cells #[.int .i64 x, .int .i64 y] 26 (0, 0))) ∧ Hid (SMap wr b N F) ∧ Hid (Below w.heap.size w wr) ∧ w.heap.size + 1 < wr.heap.size) (fun _ _ v14 _ => 4 - (intOf v14).toNat)
  case atStart => exact ⟨0, rfl, rfl, rfl, by omega, K4, K6, HS1, HB1, hz⟩
  case round =>
    obtain ⟨k, rfl, rfl, rfl, hk, K4', K6', HS, HB, hz'⟩ := hrel
    clear K4 K6 HS1 HB1 hz
    obtain ⟨⟨b1, b2⟩, hb⟩ : ∃ z, chN F B x y i k = z := ⟨_, rfl⟩
    rw [hb]
    simp only
    by_cases hlt : k < 4
    case neg =>
      obtain rfl : k = 4 := by omega
      have HR : Hid ((chp F B x y i).1 = b1) := Lib.hid (by unfold chp; rw [hb])
      clear hb
      go_wp2_with fail
      refine bodyPost_ret (v := .int .i64 b1) (by simp [results, Try.results62, go_sem]) rfl ⟨by rw [HR.out], HB.out⟩
    have HBB := Lib.hid hb
    clear hb
    have hlook := HS.out.look (x := x) (y := y) (d := (k : Int)) (wf7 (by omega) (by omega)) (wf7 (by omega) (by omega)) (wf7 (by omega) (by omega))
    obtain ⟨x0, x1⟩ : wr.cell? ⟨w.heap.size + 1, 0, none⟩ = some (.int .i64 x) ∧ wr.cell? ⟨w.heap.size + 1, 1, none⟩ = some (.int .i64 y) := ⟨cell_of_blk K6'.out rfl, cell_of_blk K6'.out rfl⟩
    obtain ⟨d0, d1, d2, d3, d4, d5⟩ : wr.cell? ⟨w.heap.size, 0, none⟩ = some (.int .i64 W) ∧ wr.cell? ⟨w.heap.size, 1, none⟩ = some (.int .i64 H) ∧ wr.cell? ⟨w.heap.size, 2, none⟩ = some (.int .i64 M) ∧ wr.cell? ⟨w.heap.size, 3, none⟩ = some (.int .i64 B) ∧ wr.cell? ⟨w.heap.size, 4, none⟩ = some (.slice ao n cp) ∧ wr.cell? ⟨w.heap.size, 5, none⟩ = some (.map (some m)) := ⟨cell_of_blk K4'.out rfl, cell_of_blk K4'.out rfl, cell_of_blk K4'.out rfl, cell_of_blk K4'.out rfl, cell_of_blk K4'.out rfl, cell_of_blk K4'.out rfl⟩
    cases hF : F x y (k : Int) with
    | none =>
      rw [hF] at hlook
      simp only [Option.getD_none, Option.isSome_none] at hlook
      have HN : Hid (chN F B x y i (k + 1) = (b1, b2)) := Lib.hid (by show ch1 F B x y i (chN F B x y i k) k = _; rw [ch1_none hF]; exact HBB.out)
      clear hF d0 d1 d2 d3 d4 d5
      go_wp2_with fail
      go_roundw
      case rel => exact ⟨k + 1, by rw [HN.out], by rw [HN.out], by go_num, by omega, K4', K6', HS, HB, hz'⟩
      case measure => simp [intOf]; omega
    | some c =>
      rw [hF] at hlook
      simp only [Option.getD_some, Option.isSome_some] at hlook
      have hcb := HF.out x y k c hF
      have hbd := bd_le (B := B) (i := i) (o := k) hB.1
      have HN : Hid (chN F B x y i (k + 1) = ch1 F B x y i (b1, b2) k) := Lib.hid (by show ch1 F B x y i (chN F B x y i k) k = _; rw [HBB.out])
      have HC := Lib.hid hF
      clear hF
      go_wp2_with fail
      refine (bend_any W H M B i k n cp m ao _).mono ?_
      obtain ⟨bv, hbv⟩ : ∃ bv, bd B i k = bv := ⟨_, rfl⟩
      rw [hbv] at hbd ⊢
      have HBV := Lib.hid hbv
      clear hbv
      rintro e w1 ⟨rfl, hb⟩
      have K41 : Hid (w1.heap[w.heap.size]? = some (.cells #[.int .i64 W, .int .i64 H, .int .i64 M, .int .i64 B, .slice ao n cp, .map (some m)] 68 (0, 0))) := Lib.hid ((hb.block _ (by omega)).trans K4'.out)
      have K61 : Hid (w1.heap[w.heap.size + 1]? = some (.cells #[.int .i64 x, .int .i64 y] 26 (0, 0))) := Lib.hid ((hb.block _ hz').trans K6'.out)
      have HS1 := Lib.hid (HS.out.keep (hb.block _ HS.out.lt))
      have HB1 : Hid (Below w.heap.size w w1) := Lib.hid (HB.out.trans (hb.mono (by omega)))
      have hz1 : w.heap.size + 1 < w1.heap.size := Nat.lt_of_lt_of_le hz' hb.size
      clear hb K4' K6' HS HB x0 x1 d0 d1 d2 d3 d4 d5 hlook
      by_cases h1 : b1 = -1
      · have HN2 : Hid (chN F B x y i (k + 1) = ((k : Int), c + bv)) := Lib.hid (by rw [HN.out, ch1_yes HC.out (Or.inl h1), HBV.out])
        subst h1
        go_wp2_with fail
        go_roundw
        case rel => exact ⟨k + 1, by rw [HN2.out], by rw [HN2.out], by go_num, by omega, K41, K61, HS1, HB1, hz1⟩
        case measure => simp [intOf]; omega
      · have hb1 : (b1 == -1) = false := beq_eq_false_iff_ne.2 h1
        by_cases h2 : c + bv < b2
        · have HN2 : Hid (chN F B x y i (k + 1) = ((k : Int), c + bv)) := Lib.hid (by rw [HN.out, ch1_yes HC.out (Or.inr (by rw [HBV.out]; exact h2)), HBV.out])
          go_wp2_with fail
          go_roundw
          case rel => exact ⟨k + 1, by rw [HN2.out], by rw [HN2.out], by go_num, by omega, K41, K61, HS1, HB1, hz1⟩
          case measure => simp [intOf]; omega
        · have HN2 : Hid (chN F B x y i (k + 1) = (b1, b2)) := Lib.hid (by rw [HN.out, ch1_no HC.out (by rw [HBV.out]; rintro (h | h); exact h1 h; exact h2 h)])
          go_wp2_with fail
          go_roundw
          case rel => exact ⟨k + 1, by rw [HN2.out], by rw [HN2.out], by go_num, by omega, K41, K61, HS1, HB1, hz1⟩
          case measure => simp [intOf]; omega
end Go.Proofs.Ytkkcnhhfdicppaa
