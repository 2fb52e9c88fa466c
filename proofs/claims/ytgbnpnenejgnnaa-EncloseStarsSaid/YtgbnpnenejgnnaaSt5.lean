import Derived.Test.YtgbnpnenejgnnaaSj5
namespace Encl
def staO (p q : Po) : Out Po := if okP p.a p.b p.c p.d = true then (if okP q.a q.b q.c q.d = true then starR p q else .bad 50) else .bad 50
end Encl
namespace Go.Proofs.Ytgbnpnenejgnnaa
open Go.RowKit Encl
theorem OutO_form (o : Out Po) : ∃ z0 z1 z2 z3 z4 z5 z6 z7 z8 z9 z10 z11 z12 z13 z14 z15 er : Int, OutO o = .returned (.tuple #[.agg #[.int .i64 z0, .int .i64 z1, .int .i64 z2, .int .i64 z3, .int .i64 z4, .int .i64 z5, .int .i64 z6, .int .i64 z7, .int .i64 z8, .int .i64 z9, .int .i64 z10, .int .i64 z11, .int .i64 z12, .int .i64 z13, .int .i64 z14, .int .i64 z15], .int .i64 er]) := by
  cases o with
  | ok x => exact ⟨_, _, _, _, _, _, _, _, _, _, _, _, _, _, _, _, _, rfl⟩
  | bad k => exact ⟨_, _, _, _, _, _, _, _, _, _, _, _, _, _, _, _, _, rfl⟩
set_option maxRecDepth 100000 in
set_option maxHeartbeats 8000000 in
theorem attempt_star (px py : Addr) (o : Out Po) (w : World) (H : ∀ w1, Below w.heap.size w w1 → Calls Try.prog 95 #[.pointer (some px), .pointer (some py)] w1 fun e w' => IsO e o ∧ Below w1.heap.size w1 w') :
    Calls Try.prog 94 #[.func (Fn.func 95) #[] #[.pointer (some px), .pointer (some py)]] w fun e w' => e = OutO o ∧ Below w.heap.size w w' := by
  have HH := Lib.hid H
  clear H
  have hmf : ∀ (fn : Fn) (first cap : Array Value) (w : World), (Instr.makeFunc fn first cap).run Try.prog w = .ok (.func fn first cap) w := fun _ _ _ _ => rfl
  go_enter_defers Try.func94, Try.ntmps94
  go_upto_region 2 with fail
  refine wp_region_lit ?_
  refine wpList_step (fun K hK => ?_); go_simp; refine hK _ _ ?_; clear hK K
  refine wpList_step (fun K hK => ?_)
  go_simp
  refine (HH.out _ (by go_grown)).mono ?_
  rintro e w1 ⟨he, hb⟩
  have D1 : Below w.heap.size w w1 := Below.trans (by go_grown) (hb.mono (by first | omega | (simp; done) | (simp; omega)))
  have s1 : w.heap.size + 1 < w1.heap.size := by have hs := hb.size; (try simp at hs); omega
  have s0 : w.heap.size < w1.heap.size := by omega
  obtain ⟨k1, k2⟩ := bcl hb
  have d'0 := (k1 (w.heap.size + 1) 0 (by first | omega | (simp; done) | (simp; omega))).trans (by go_cell : _ = some (.int .i64 0))
  have f'0 := (k2 (w.heap.size + 1) 0 (by first | omega | (simp; done) | (simp; omega))).trans (by go_cell : _ = false)
  have hT : w1.heap[w.heap.size]? = some (.cells #[.int .i64 0, .int .i64 0, .int .i64 0, .int .i64 0, .int .i64 0, .int .i64 0, .int .i64 0, .int .i64 0, .int .i64 0, .int .i64 0, .int .i64 0, .int .i64 0, .int .i64 0, .int .i64 0, .int .i64 0, .int .i64 0] 49 (0, 0)) := (hb.block _ (by first | omega | (simp; done) | (simp; omega))).trans ((Below.heap_alloc _ _ _ (by first | omega | (simp; done) | (simp; omega))).trans (heap_alloc_new w _))
  have HTH := Lib.hid (there_row hT 16 (Nat.le_refl _))
  have HTB := Lib.hid hT
  clear hb k1 k2 hT
  rcases o with ⟨⟨⟨a0, b0⟩, ⟨c0, d0⟩⟩, ⟨⟨a1, b1⟩, ⟨c1, d1⟩⟩, ⟨⟨a2, b2⟩, ⟨c2, d2⟩⟩, ⟨⟨a3, b3⟩, ⟨c3, d3⟩⟩⟩ | k
  · obtain rfl : e = .returned (.agg #[.int .i64 a0, .int .i64 b0, .int .i64 c0, .int .i64 d0, .int .i64 a1, .int .i64 b1, .int .i64 c1, .int .i64 d1, .int .i64 a2, .int .i64 b2, .int .i64 c2, .int .i64 d2, .int .i64 a3, .int .i64 b3, .int .i64 c3, .int .i64 d3]) := he
    refine hK _ _ ?_
    clear hK K
    refine wpList_store_mid rfl 49 (.tmp 2) (.tmp 6) rfl w.heap.size 0 #[.int .i64 a0, .int .i64 b0, .int .i64 c0, .int .i64 d0, .int .i64 a1, .int .i64 b1, .int .i64 c1, .int .i64 d1, .int .i64 a2, .int .i64 b2, .int .i64 c2, .int .i64 d2, .int .i64 a3, .int .i64 b3, .int .i64 c3, .int .i64 d3] rfl rfl HTH.out (by kernel_rfl) (by simp [Value.oneCell']) ?_
    have hload : (w1.setCells w.heap.size 0 [.int .i64 a0, .int .i64 b0, .int .i64 c0, .int .i64 d0, .int .i64 a1, .int .i64 b1, .int .i64 c1, .int .i64 d1, .int .i64 a2, .int .i64 b2, .int .i64 c2, .int .i64 d2, .int .i64 a3, .int .i64 b3, .int .i64 c3, .int .i64 d3]).rangeAt w.heap.size 0 [.int .i64 a0, .int .i64 b0, .int .i64 c0, .int .i64 d0, .int .i64 a1, .int .i64 b1, .int .i64 c1, .int .i64 d1, .int .i64 a2, .int .i64 b2, .int .i64 c2, .int .i64 d2, .int .i64 a3, .int .i64 b3, .int .i64 c3, .int .i64 d3] := World.rangeAt_setCells_same w1 _ _ _ HTH.out
    have DZ : Below w.heap.size w (w1.setCells w.heap.size 0 [.int .i64 a0, .int .i64 b0, .int .i64 c0, .int .i64 d0, .int .i64 a1, .int .i64 b1, .int .i64 c1, .int .i64 d1, .int .i64 a2, .int .i64 b2, .int .i64 c2, .int .i64 d2, .int .i64 a3, .int .i64 b3, .int .i64 c3, .int .i64 d3]) := below_mids (Nat.le_refl _) _ _ D1
    have e0 : (w1.setCells w.heap.size 0 [.int .i64 a0, .int .i64 b0, .int .i64 c0, .int .i64 d0, .int .i64 a1, .int .i64 b1, .int .i64 c1, .int .i64 d1, .int .i64 a2, .int .i64 b2, .int .i64 c2, .int .i64 d2, .int .i64 a3, .int .i64 b3, .int .i64 c3, .int .i64 d3]).cell? ⟨w.heap.size + 1, 0, none⟩ = some (.int .i64 0) := (World.cell?_setCells_out _ _ _ _ _ (fun h => absurd h (Nat.succ_ne_self _))).trans d'0
    have e1 : (w1.setCells w.heap.size 0 [.int .i64 a0, .int .i64 b0, .int .i64 c0, .int .i64 d0, .int .i64 a1, .int .i64 b1, .int .i64 c1, .int .i64 d1, .int .i64 a2, .int .i64 b2, .int .i64 c2, .int .i64 d2, .int .i64 a3, .int .i64 b3, .int .i64 c3, .int .i64 d3]).frozen? ⟨w.heap.size + 1, 0, none⟩ = false := (World.frozen?_setCells _ _ _ _ _).trans f'0
    have s2 : w.heap.size + 1 < (w1.setCells w.heap.size 0 [.int .i64 a0, .int .i64 b0, .int .i64 c0, .int .i64 d0, .int .i64 a1, .int .i64 b1, .int .i64 c1, .int .i64 d1, .int .i64 a2, .int .i64 b2, .int .i64 c2, .int .i64 d2, .int .i64 a3, .int .i64 b3, .int .i64 c3, .int .i64 d3]).heap.size := Nat.lt_of_lt_of_le s1 (below_mids (Nat.le_refl _) [.int .i64 a0, .int .i64 b0, .int .i64 c0, .int .i64 d0, .int .i64 a1, .int .i64 b1, .int .i64 c1, .int .i64 d1, .int .i64 a2, .int .i64 b2, .int .i64 c2, .int .i64 d2, .int .i64 a3, .int .i64 b3, .int .i64 c3, .int .i64 d3] 0 (Below.refl w.heap.size w1)).size
    (try rw [show (#[.int .i64 a0, .int .i64 b0, .int .i64 c0, .int .i64 d0, .int .i64 a1, .int .i64 b1, .int .i64 c1, .int .i64 d1, .int .i64 a2, .int .i64 b2, .int .i64 c2, .int .i64 d2, .int .i64 a3, .int .i64 b3, .int .i64 c3, .int .i64 d3] : Array Value).toList = [.int .i64 a0, .int .i64 b0, .int .i64 c0, .int .i64 d0, .int .i64 a1, .int .i64 b1, .int .i64 c1, .int .i64 d1, .int .i64 a2, .int .i64 b2, .int .i64 c2, .int .i64 d2, .int .i64 a3, .int .i64 b3, .int .i64 c3, .int .i64 d3] from rfl])
    generalize w1.setCells w.heap.size 0 [.int .i64 a0, .int .i64 b0, .int .i64 c0, .int .i64 d0, .int .i64 a1, .int .i64 b1, .int .i64 c1, .int .i64 d1, .int .i64 a2, .int .i64 b2, .int .i64 c2, .int .i64 d2, .int .i64 a3, .int .i64 b3, .int .i64 c3, .int .i64 d3] = W3 at *
    have HL := Lib.hid hload
    clear hload HTH HTB d'0 f'0 D1 s1 s0
    refine wpList_step (fun K hK => ?_); go_simp; refine hK _ _ ?_; clear hK K
    refine wpList_nil ?_
    have s3 : w.heap.size < W3.heap.size := by omega
    obtain ⟨q0, q1, q2, q3, q4, q5, q6, q7, q8, q9, q10, q11, q12, q13, q14, q15⟩ : (W3.cell? ⟨w.heap.size, 0, none⟩ = some (.int .i64 a0) ∧ W3.cell? ⟨w.heap.size, 1, none⟩ = some (.int .i64 b0) ∧ W3.cell? ⟨w.heap.size, 2, none⟩ = some (.int .i64 c0) ∧ W3.cell? ⟨w.heap.size, 3, none⟩ = some (.int .i64 d0) ∧ W3.cell? ⟨w.heap.size, 4, none⟩ = some (.int .i64 a1) ∧ W3.cell? ⟨w.heap.size, 5, none⟩ = some (.int .i64 b1) ∧ W3.cell? ⟨w.heap.size, 6, none⟩ = some (.int .i64 c1) ∧ W3.cell? ⟨w.heap.size, 7, none⟩ = some (.int .i64 d1) ∧ W3.cell? ⟨w.heap.size, 8, none⟩ = some (.int .i64 a2) ∧ W3.cell? ⟨w.heap.size, 9, none⟩ = some (.int .i64 b2) ∧ W3.cell? ⟨w.heap.size, 10, none⟩ = some (.int .i64 c2) ∧ W3.cell? ⟨w.heap.size, 11, none⟩ = some (.int .i64 d2) ∧ W3.cell? ⟨w.heap.size, 12, none⟩ = some (.int .i64 a3) ∧ W3.cell? ⟨w.heap.size, 13, none⟩ = some (.int .i64 b3) ∧ W3.cell? ⟨w.heap.size, 14, none⟩ = some (.int .i64 c3) ∧ W3.cell? ⟨w.heap.size, 15, none⟩ = some (.int .i64 d3)) := by
      have h := HL.out
      refine ⟨by have h1 := h 0 _ rfl; rwa [Nat.zero_add] at h1, by have h1 := h 1 _ rfl; rwa [Nat.zero_add] at h1, by have h1 := h 2 _ rfl; rwa [Nat.zero_add] at h1, by have h1 := h 3 _ rfl; rwa [Nat.zero_add] at h1, by have h1 := h 4 _ rfl; rwa [Nat.zero_add] at h1, by have h1 := h 5 _ rfl; rwa [Nat.zero_add] at h1, by have h1 := h 6 _ rfl; rwa [Nat.zero_add] at h1, by have h1 := h 7 _ rfl; rwa [Nat.zero_add] at h1, by have h1 := h 8 _ rfl; rwa [Nat.zero_add] at h1, by have h1 := h 9 _ rfl; rwa [Nat.zero_add] at h1, by have h1 := h 10 _ rfl; rwa [Nat.zero_add] at h1, by have h1 := h 11 _ rfl; rwa [Nat.zero_add] at h1, by have h1 := h 12 _ rfl; rwa [Nat.zero_add] at h1, by have h1 := h 13 _ rfl; rwa [Nat.zero_add] at h1, by have h1 := h 14 _ rfl; rwa [Nat.zero_add] at h1, by have h1 := h 15 _ rfl; rwa [Nat.zero_add] at h1⟩
    go_wp2_with fail
    refine leaves_cons (f := 142) (args := #[.pointer (some ⟨w.heap.size + 1, 0, none⟩)]) (by simp) (by simp [go_sem]) ?_
    refine (catchP_idle ⟨w.heap.size + 1, 0, none⟩ _).mono ?_
    rintro e u' w2 ⟨rfl, rfl, rfl⟩
    simp [Leaves, settle, results, Try.results94, go_sem, *]
    exact ⟨rfl, by go_grown⟩
  · obtain rfl : e = .panicked [{ v := .iface 26 (.int .i64 k), recovered := false }] := he
    obtain ⟨q0, q1, q2, q3, q4, q5, q6, q7, q8, q9, q10, q11, q12, q13, q14, q15⟩ : (w1.cell? ⟨w.heap.size, 0, none⟩ = some (.int .i64 0) ∧ w1.cell? ⟨w.heap.size, 1, none⟩ = some (.int .i64 0) ∧ w1.cell? ⟨w.heap.size, 2, none⟩ = some (.int .i64 0) ∧ w1.cell? ⟨w.heap.size, 3, none⟩ = some (.int .i64 0) ∧ w1.cell? ⟨w.heap.size, 4, none⟩ = some (.int .i64 0) ∧ w1.cell? ⟨w.heap.size, 5, none⟩ = some (.int .i64 0) ∧ w1.cell? ⟨w.heap.size, 6, none⟩ = some (.int .i64 0) ∧ w1.cell? ⟨w.heap.size, 7, none⟩ = some (.int .i64 0) ∧ w1.cell? ⟨w.heap.size, 8, none⟩ = some (.int .i64 0) ∧ w1.cell? ⟨w.heap.size, 9, none⟩ = some (.int .i64 0) ∧ w1.cell? ⟨w.heap.size, 10, none⟩ = some (.int .i64 0) ∧ w1.cell? ⟨w.heap.size, 11, none⟩ = some (.int .i64 0) ∧ w1.cell? ⟨w.heap.size, 12, none⟩ = some (.int .i64 0) ∧ w1.cell? ⟨w.heap.size, 13, none⟩ = some (.int .i64 0) ∧ w1.cell? ⟨w.heap.size, 14, none⟩ = some (.int .i64 0) ∧ w1.cell? ⟨w.heap.size, 15, none⟩ = some (.int .i64 0)) := by
      have h := range_row HTB.out 0 [.int .i64 0, .int .i64 0, .int .i64 0, .int .i64 0, .int .i64 0, .int .i64 0, .int .i64 0, .int .i64 0, .int .i64 0, .int .i64 0, .int .i64 0, .int .i64 0, .int .i64 0, .int .i64 0, .int .i64 0, .int .i64 0] (fun j hj => by simp only [Nat.zero_add, List.getElem?_toArray])
      refine ⟨by have h1 := h 0 _ rfl; rwa [Nat.zero_add] at h1, by have h1 := h 1 _ rfl; rwa [Nat.zero_add] at h1, by have h1 := h 2 _ rfl; rwa [Nat.zero_add] at h1, by have h1 := h 3 _ rfl; rwa [Nat.zero_add] at h1, by have h1 := h 4 _ rfl; rwa [Nat.zero_add] at h1, by have h1 := h 5 _ rfl; rwa [Nat.zero_add] at h1, by have h1 := h 6 _ rfl; rwa [Nat.zero_add] at h1, by have h1 := h 7 _ rfl; rwa [Nat.zero_add] at h1, by have h1 := h 8 _ rfl; rwa [Nat.zero_add] at h1, by have h1 := h 9 _ rfl; rwa [Nat.zero_add] at h1, by have h1 := h 10 _ rfl; rwa [Nat.zero_add] at h1, by have h1 := h 11 _ rfl; rwa [Nat.zero_add] at h1, by have h1 := h 12 _ rfl; rwa [Nat.zero_add] at h1, by have h1 := h 13 _ rfl; rwa [Nat.zero_add] at h1, by have h1 := h 14 _ rfl; rwa [Nat.zero_add] at h1, by have h1 := h 15 _ rfl; rwa [Nat.zero_add] at h1⟩
    go_wp2_with fail
    refine leaves_cons (f := 142) (args := #[.pointer (some ⟨w.heap.size + 1, 0, none⟩)]) (by simp) (by simp [go_sem]) ?_
    refine (catchP_panicking ⟨w.heap.size + 1, 0, none⟩ 0 k [] _ ?_ ?_).mono ?_
    · go_cell
    · go_cell
    rintro e u' w2 ⟨rfl, rfl, rfl⟩
    simp [Leaves, settle, results, Try.results94, go_sem, *]
    exact ⟨rfl, by go_grown⟩
end Go.Proofs.Ytgbnpnenejgnnaa

namespace Go.Proofs.Ytgbnpnenejgnnaa
open Go.RowKit Encl
set_option maxRecDepth 100000 in
set_option maxHeartbeats 8000000 in
theorem eStar_nop (a0 b0 c0 d0 a1 b1 c1 d1 a2 b2 c2 d2 a3 b3 c3 d3 e0 f0 g0 h0 e1 f1 g1 h1 e2 f2 g2 h2 e3 f3 g3 h3 : Int) (w : World) (hp : okP ⟨⟨a0, b0⟩, ⟨c0, d0⟩⟩ ⟨⟨a1, b1⟩, ⟨c1, d1⟩⟩ ⟨⟨a2, b2⟩, ⟨c2, d2⟩⟩ ⟨⟨a3, b3⟩, ⟨c3, d3⟩⟩ = false) :
    Calls Try.prog 43 #[.agg #[.int .i64 a0, .int .i64 b0, .int .i64 c0, .int .i64 d0, .int .i64 a1, .int .i64 b1, .int .i64 c1, .int .i64 d1, .int .i64 a2, .int .i64 b2, .int .i64 c2, .int .i64 d2, .int .i64 a3, .int .i64 b3, .int .i64 c3, .int .i64 d3], .agg #[.int .i64 e0, .int .i64 f0, .int .i64 g0, .int .i64 h0, .int .i64 e1, .int .i64 f1, .int .i64 g1, .int .i64 h1, .int .i64 e2, .int .i64 f2, .int .i64 g2, .int .i64 h2, .int .i64 e3, .int .i64 f3, .int .i64 g3, .int .i64 h3]] w fun e w' => e = OutO (.bad 50) ∧ Below w.heap.size w w' := by
  have hmf : ∀ (fn : Fn) (first cap : Array Value) (w : World), (Instr.makeFunc fn first cap).run Try.prog w = .ok (.func fn first cap) w := fun _ _ _ _ => rfl
  have HBP := Lib.hid hp
  go_enter Try.func43, Try.ntmps43
  go_upto_region 1 with fail
  have hb0 : Below w.heap.size w (((w.alloc (.cells #[.int .i64 a0, .int .i64 b0, .int .i64 c0, .int .i64 d0, .int .i64 a1, .int .i64 b1, .int .i64 c1, .int .i64 d1, .int .i64 a2, .int .i64 b2, .int .i64 c2, .int .i64 d2, .int .i64 a3, .int .i64 b3, .int .i64 c3, .int .i64 d3] 49)).alloc (.cells #[.int .i64 e0, .int .i64 f0, .int .i64 g0, .int .i64 h0, .int .i64 e1, .int .i64 f1, .int .i64 g1, .int .i64 h1, .int .i64 e2, .int .i64 f2, .int .i64 g2, .int .i64 h2, .int .i64 e3, .int .i64 f3, .int .i64 g3, .int .i64 h3] 49)).alloc (.cells #[.int .i64 0, .int .i64 0, .int .i64 0, .int .i64 0, .int .i64 0, .int .i64 0, .int .i64 0, .int .i64 0, .int .i64 0, .int .i64 0, .int .i64 0, .int .i64 0, .int .i64 0, .int .i64 0, .int .i64 0, .int .i64 0] 49)) := by go_grown
  have bP : (((w.alloc (.cells #[.int .i64 a0, .int .i64 b0, .int .i64 c0, .int .i64 d0, .int .i64 a1, .int .i64 b1, .int .i64 c1, .int .i64 d1, .int .i64 a2, .int .i64 b2, .int .i64 c2, .int .i64 d2, .int .i64 a3, .int .i64 b3, .int .i64 c3, .int .i64 d3] 49)).alloc (.cells #[.int .i64 e0, .int .i64 f0, .int .i64 g0, .int .i64 h0, .int .i64 e1, .int .i64 f1, .int .i64 g1, .int .i64 h1, .int .i64 e2, .int .i64 f2, .int .i64 g2, .int .i64 h2, .int .i64 e3, .int .i64 f3, .int .i64 g3, .int .i64 h3] 49)).alloc (.cells #[.int .i64 0, .int .i64 0, .int .i64 0, .int .i64 0, .int .i64 0, .int .i64 0, .int .i64 0, .int .i64 0, .int .i64 0, .int .i64 0, .int .i64 0, .int .i64 0, .int .i64 0, .int .i64 0, .int .i64 0, .int .i64 0] 49)).heap[w.heap.size]? = some (.cells #[.int .i64 a0, .int .i64 b0, .int .i64 c0, .int .i64 d0, .int .i64 a1, .int .i64 b1, .int .i64 c1, .int .i64 d1, .int .i64 a2, .int .i64 b2, .int .i64 c2, .int .i64 d2, .int .i64 a3, .int .i64 b3, .int .i64 c3, .int .i64 d3] 49 (0, 0)) := (Below.heap_alloc _ _ _ (by first | omega | (simp; done) | (simp; omega))).trans ((Below.heap_alloc _ _ _ (by first | omega | (simp; done) | (simp; omega))).trans (heap_alloc_new w _))
  have bQ : (((w.alloc (.cells #[.int .i64 a0, .int .i64 b0, .int .i64 c0, .int .i64 d0, .int .i64 a1, .int .i64 b1, .int .i64 c1, .int .i64 d1, .int .i64 a2, .int .i64 b2, .int .i64 c2, .int .i64 d2, .int .i64 a3, .int .i64 b3, .int .i64 c3, .int .i64 d3] 49)).alloc (.cells #[.int .i64 e0, .int .i64 f0, .int .i64 g0, .int .i64 h0, .int .i64 e1, .int .i64 f1, .int .i64 g1, .int .i64 h1, .int .i64 e2, .int .i64 f2, .int .i64 g2, .int .i64 h2, .int .i64 e3, .int .i64 f3, .int .i64 g3, .int .i64 h3] 49)).alloc (.cells #[.int .i64 0, .int .i64 0, .int .i64 0, .int .i64 0, .int .i64 0, .int .i64 0, .int .i64 0, .int .i64 0, .int .i64 0, .int .i64 0, .int .i64 0, .int .i64 0, .int .i64 0, .int .i64 0, .int .i64 0, .int .i64 0] 49)).heap[w.heap.size + 1]? = some (.cells #[.int .i64 e0, .int .i64 f0, .int .i64 g0, .int .i64 h0, .int .i64 e1, .int .i64 f1, .int .i64 g1, .int .i64 h1, .int .i64 e2, .int .i64 f2, .int .i64 g2, .int .i64 h2, .int .i64 e3, .int .i64 f3, .int .i64 g3, .int .i64 h3] 49 (0, 0)) := (Below.heap_alloc _ _ _ (by first | omega | (simp; done) | (simp; omega))).trans (by
    have h := heap_alloc_new (w.alloc (.cells #[.int .i64 a0, .int .i64 b0, .int .i64 c0, .int .i64 d0, .int .i64 a1, .int .i64 b1, .int .i64 c1, .int .i64 d1, .int .i64 a2, .int .i64 b2, .int .i64 c2, .int .i64 d2, .int .i64 a3, .int .i64 b3, .int .i64 c3, .int .i64 d3] 49)) (.cells #[.int .i64 e0, .int .i64 f0, .int .i64 g0, .int .i64 h0, .int .i64 e1, .int .i64 f1, .int .i64 g1, .int .i64 h1, .int .i64 e2, .int .i64 f2, .int .i64 g2, .int .i64 h2, .int .i64 e3, .int .i64 f3, .int .i64 g3, .int .i64 h3] 49)
    rwa [World.size_alloc] at h)
  have bT : (((w.alloc (.cells #[.int .i64 a0, .int .i64 b0, .int .i64 c0, .int .i64 d0, .int .i64 a1, .int .i64 b1, .int .i64 c1, .int .i64 d1, .int .i64 a2, .int .i64 b2, .int .i64 c2, .int .i64 d2, .int .i64 a3, .int .i64 b3, .int .i64 c3, .int .i64 d3] 49)).alloc (.cells #[.int .i64 e0, .int .i64 f0, .int .i64 g0, .int .i64 h0, .int .i64 e1, .int .i64 f1, .int .i64 g1, .int .i64 h1, .int .i64 e2, .int .i64 f2, .int .i64 g2, .int .i64 h2, .int .i64 e3, .int .i64 f3, .int .i64 g3, .int .i64 h3] 49)).alloc (.cells #[.int .i64 0, .int .i64 0, .int .i64 0, .int .i64 0, .int .i64 0, .int .i64 0, .int .i64 0, .int .i64 0, .int .i64 0, .int .i64 0, .int .i64 0, .int .i64 0, .int .i64 0, .int .i64 0, .int .i64 0, .int .i64 0] 49)).heap[w.heap.size + 1 + 1]? = some (.cells #[.int .i64 0, .int .i64 0, .int .i64 0, .int .i64 0, .int .i64 0, .int .i64 0, .int .i64 0, .int .i64 0, .int .i64 0, .int .i64 0, .int .i64 0, .int .i64 0, .int .i64 0, .int .i64 0, .int .i64 0, .int .i64 0] 49 (0, 0)) := by
    have h := heap_alloc_new ((w.alloc (.cells #[.int .i64 a0, .int .i64 b0, .int .i64 c0, .int .i64 d0, .int .i64 a1, .int .i64 b1, .int .i64 c1, .int .i64 d1, .int .i64 a2, .int .i64 b2, .int .i64 c2, .int .i64 d2, .int .i64 a3, .int .i64 b3, .int .i64 c3, .int .i64 d3] 49)).alloc (.cells #[.int .i64 e0, .int .i64 f0, .int .i64 g0, .int .i64 h0, .int .i64 e1, .int .i64 f1, .int .i64 g1, .int .i64 h1, .int .i64 e2, .int .i64 f2, .int .i64 g2, .int .i64 h2, .int .i64 e3, .int .i64 f3, .int .i64 g3, .int .i64 h3] 49)) (.cells #[.int .i64 0, .int .i64 0, .int .i64 0, .int .i64 0, .int .i64 0, .int .i64 0, .int .i64 0, .int .i64 0, .int .i64 0, .int .i64 0, .int .i64 0, .int .i64 0, .int .i64 0, .int .i64 0, .int .i64 0, .int .i64 0] 49)
    rwa [World.size_alloc, World.size_alloc] at h
  have hsz : w.heap.size + 1 + 1 < (((w.alloc (.cells #[.int .i64 a0, .int .i64 b0, .int .i64 c0, .int .i64 d0, .int .i64 a1, .int .i64 b1, .int .i64 c1, .int .i64 d1, .int .i64 a2, .int .i64 b2, .int .i64 c2, .int .i64 d2, .int .i64 a3, .int .i64 b3, .int .i64 c3, .int .i64 d3] 49)).alloc (.cells #[.int .i64 e0, .int .i64 f0, .int .i64 g0, .int .i64 h0, .int .i64 e1, .int .i64 f1, .int .i64 g1, .int .i64 h1, .int .i64 e2, .int .i64 f2, .int .i64 g2, .int .i64 h2, .int .i64 e3, .int .i64 f3, .int .i64 g3, .int .i64 h3] 49)).alloc (.cells #[.int .i64 0, .int .i64 0, .int .i64 0, .int .i64 0, .int .i64 0, .int .i64 0, .int .i64 0, .int .i64 0, .int .i64 0, .int .i64 0, .int .i64 0, .int .i64 0, .int .i64 0, .int .i64 0, .int .i64 0, .int .i64 0] 49)).heap.size := by simp
  generalize (((w.alloc (.cells #[.int .i64 a0, .int .i64 b0, .int .i64 c0, .int .i64 d0, .int .i64 a1, .int .i64 b1, .int .i64 c1, .int .i64 d1, .int .i64 a2, .int .i64 b2, .int .i64 c2, .int .i64 d2, .int .i64 a3, .int .i64 b3, .int .i64 c3, .int .i64 d3] 49)).alloc (.cells #[.int .i64 e0, .int .i64 f0, .int .i64 g0, .int .i64 h0, .int .i64 e1, .int .i64 f1, .int .i64 g1, .int .i64 h1, .int .i64 e2, .int .i64 f2, .int .i64 g2, .int .i64 h2, .int .i64 e3, .int .i64 f3, .int .i64 g3, .int .i64 h3] 49)).alloc (.cells #[.int .i64 0, .int .i64 0, .int .i64 0, .int .i64 0, .int .i64 0, .int .i64 0, .int .i64 0, .int .i64 0, .int .i64 0, .int .i64 0, .int .i64 0, .int .i64 0, .int .i64 0, .int .i64 0, .int .i64 0, .int .i64 0] 49)) = W at *
  have lP : w.heap.size < W.heap.size := by omega
  have lQ : w.heap.size + 1 < W.heap.size := by omega
  have G0 : Hid (∀ w', Below W.heap.size W w' → w'.heap[w.heap.size]? = some (.cells #[.int .i64 a0, .int .i64 b0, .int .i64 c0, .int .i64 d0, .int .i64 a1, .int .i64 b1, .int .i64 c1, .int .i64 d1, .int .i64 a2, .int .i64 b2, .int .i64 c2, .int .i64 d2, .int .i64 a3, .int .i64 b3, .int .i64 c3, .int .i64 d3] 49 (0, 0)) ∧ w'.heap[w.heap.size + 1]? = some (.cells #[.int .i64 e0, .int .i64 f0, .int .i64 g0, .int .i64 h0, .int .i64 e1, .int .i64 f1, .int .i64 g1, .int .i64 h1, .int .i64 e2, .int .i64 f2, .int .i64 g2, .int .i64 h2, .int .i64 e3, .int .i64 f3, .int .i64 g3, .int .i64 h3] 49 (0, 0))) := Lib.hid (fun w' hb => ⟨(hb.block _ lP).trans bP, (hb.block _ lQ).trans bQ⟩)
  have G1 : Hid (∀ w', Below W.heap.size W w' → w'.heap[w.heap.size + 1 + 1]? = some (.cells #[.int .i64 0, .int .i64 0, .int .i64 0, .int .i64 0, .int .i64 0, .int .i64 0, .int .i64 0, .int .i64 0, .int .i64 0, .int .i64 0, .int .i64 0, .int .i64 0, .int .i64 0, .int .i64 0, .int .i64 0, .int .i64 0] 49 (0, 0))) := Lib.hid (fun w' hb => (hb.block _ hsz).trans bT)
  have HB0 := Lib.hid hb0
  have HRP := Lib.hid (range_row bP 0 [.int .i64 a0, .int .i64 b0, .int .i64 c0, .int .i64 d0, .int .i64 a1, .int .i64 b1, .int .i64 c1, .int .i64 d1, .int .i64 a2, .int .i64 b2, .int .i64 c2, .int .i64 d2, .int .i64 a3, .int .i64 b3, .int .i64 c3, .int .i64 d3] (fun j hj => by simp only [Nat.zero_add, List.getElem?_toArray]))
  clear hb0 bP bQ bT
  refine wp_region_lit ?_
  refine wpList_load_mid rfl 49 (.tmp 2) rfl w.heap.size 0 rfl [.int .i64 a0, .int .i64 b0, .int .i64 c0, .int .i64 d0, .int .i64 a1, .int .i64 b1, .int .i64 c1, .int .i64 d1, .int .i64 a2, .int .i64 b2, .int .i64 c2, .int .i64 d2, .int .i64 a3, .int .i64 b3, .int .i64 c3, .int .i64 d3] _ HRP.out Try.underlying49 rfl (by kernel_rfl) ?_
  refine wpList_step (fun K hK => ?_)
  go_simp
  refine (eValidPort_any a0 b0 c0 d0 a1 b1 c1 d1 a2 b2 c2 d2 a3 b3 c3 d3 _).mono ?_
  rw [HBP.out]
  rintro e w1 ⟨rfl, hb⟩
  have D1 : Below W.heap.size W w1 := hb.mono (Nat.le_refl _)
  clear hb HRP
  refine hK _ _ ?_
  clear hK K
  refine wpList_step (fun K hK => ?_); go_simp; refine hK _ _ ?_; clear hK K
  refine wpList_step (fun K hK => ?_); go_simp; refine hK _ _ ?_; clear hK K
  refine wpList_skip (by rfl) ?_
  refine wpList_skip (by rfl) ?_
  refine wpList_skip (by rfl) ?_
  refine wpList_step (fun K hK => ?_); go_simp; refine hK _ _ ?_; clear hK K
  refine wpList_nil ?_
  go_upto_region 2 with fail
  refine wp_region_lit ?_
  refine wpList_step (fun K hK => ?_); go_simp; refine hK _ _ ?_; clear hK K
  have HTH := Lib.hid (there_row (G1.out _ D1) 16 (Nat.le_refl _))
  have HDF := Lib.hid (HB0.out.trans (D1.mono (by omega)))
  refine wpList_store_mid rfl 49 (.tmp 4) (.tmp 14) rfl (w.heap.size + 1 + 1) 0 #[.int .i64 0, .int .i64 0, .int .i64 0, .int .i64 0, .int .i64 0, .int .i64 0, .int .i64 0, .int .i64 0, .int .i64 0, .int .i64 0, .int .i64 0, .int .i64 0, .int .i64 0, .int .i64 0, .int .i64 0, .int .i64 0] rfl rfl HTH.out (by kernel_rfl) (by simp [Value.oneCell']) ?_
  have hload : (w1.setCells (w.heap.size + 1 + 1) 0 [.int .i64 0, .int .i64 0, .int .i64 0, .int .i64 0, .int .i64 0, .int .i64 0, .int .i64 0, .int .i64 0, .int .i64 0, .int .i64 0, .int .i64 0, .int .i64 0, .int .i64 0, .int .i64 0, .int .i64 0, .int .i64 0]).rangeAt (w.heap.size + 1 + 1) 0 [.int .i64 0, .int .i64 0, .int .i64 0, .int .i64 0, .int .i64 0, .int .i64 0, .int .i64 0, .int .i64 0, .int .i64 0, .int .i64 0, .int .i64 0, .int .i64 0, .int .i64 0, .int .i64 0, .int .i64 0, .int .i64 0] := World.rangeAt_setCells_same w1 _ _ _ HTH.out
  have DZ : Below w.heap.size w (w1.setCells (w.heap.size + 1 + 1) 0 [.int .i64 0, .int .i64 0, .int .i64 0, .int .i64 0, .int .i64 0, .int .i64 0, .int .i64 0, .int .i64 0, .int .i64 0, .int .i64 0, .int .i64 0, .int .i64 0, .int .i64 0, .int .i64 0, .int .i64 0, .int .i64 0]) := below_mids (by omega) _ _ HDF.out
  (try rw [show (#[.int .i64 0, .int .i64 0, .int .i64 0, .int .i64 0, .int .i64 0, .int .i64 0, .int .i64 0, .int .i64 0, .int .i64 0, .int .i64 0, .int .i64 0, .int .i64 0, .int .i64 0, .int .i64 0, .int .i64 0, .int .i64 0] : Array Value).toList = [.int .i64 0, .int .i64 0, .int .i64 0, .int .i64 0, .int .i64 0, .int .i64 0, .int .i64 0, .int .i64 0, .int .i64 0, .int .i64 0, .int .i64 0, .int .i64 0, .int .i64 0, .int .i64 0, .int .i64 0, .int .i64 0] from rfl])
  generalize w1.setCells (w.heap.size + 1 + 1) 0 [.int .i64 0, .int .i64 0, .int .i64 0, .int .i64 0, .int .i64 0, .int .i64 0, .int .i64 0, .int .i64 0, .int .i64 0, .int .i64 0, .int .i64 0, .int .i64 0, .int .i64 0, .int .i64 0, .int .i64 0, .int .i64 0] = W3 at *
  have HL := Lib.hid hload
  clear hload HTH HDF G0 G1 HB0
  refine wpList_step (fun K hK => ?_); go_simp; refine hK _ _ ?_; clear hK K
  refine wpList_nil ?_
  go_wp2_with fail
  obtain ⟨q0, q1, q2, q3, q4, q5, q6, q7, q8, q9, q10, q11, q12, q13, q14, q15⟩ : (W3.cell? ⟨w.heap.size + 1 + 1, 0, none⟩ = some (.int .i64 0) ∧ W3.cell? ⟨w.heap.size + 1 + 1, 1, none⟩ = some (.int .i64 0) ∧ W3.cell? ⟨w.heap.size + 1 + 1, 2, none⟩ = some (.int .i64 0) ∧ W3.cell? ⟨w.heap.size + 1 + 1, 3, none⟩ = some (.int .i64 0) ∧ W3.cell? ⟨w.heap.size + 1 + 1, 4, none⟩ = some (.int .i64 0) ∧ W3.cell? ⟨w.heap.size + 1 + 1, 5, none⟩ = some (.int .i64 0) ∧ W3.cell? ⟨w.heap.size + 1 + 1, 6, none⟩ = some (.int .i64 0) ∧ W3.cell? ⟨w.heap.size + 1 + 1, 7, none⟩ = some (.int .i64 0) ∧ W3.cell? ⟨w.heap.size + 1 + 1, 8, none⟩ = some (.int .i64 0) ∧ W3.cell? ⟨w.heap.size + 1 + 1, 9, none⟩ = some (.int .i64 0) ∧ W3.cell? ⟨w.heap.size + 1 + 1, 10, none⟩ = some (.int .i64 0) ∧ W3.cell? ⟨w.heap.size + 1 + 1, 11, none⟩ = some (.int .i64 0) ∧ W3.cell? ⟨w.heap.size + 1 + 1, 12, none⟩ = some (.int .i64 0) ∧ W3.cell? ⟨w.heap.size + 1 + 1, 13, none⟩ = some (.int .i64 0) ∧ W3.cell? ⟨w.heap.size + 1 + 1, 14, none⟩ = some (.int .i64 0) ∧ W3.cell? ⟨w.heap.size + 1 + 1, 15, none⟩ = some (.int .i64 0)) := by
    have h := HL.out
    refine ⟨by have h1 := h 0 _ rfl; rwa [Nat.zero_add] at h1, by have h1 := h 1 _ rfl; rwa [Nat.zero_add] at h1, by have h1 := h 2 _ rfl; rwa [Nat.zero_add] at h1, by have h1 := h 3 _ rfl; rwa [Nat.zero_add] at h1, by have h1 := h 4 _ rfl; rwa [Nat.zero_add] at h1, by have h1 := h 5 _ rfl; rwa [Nat.zero_add] at h1, by have h1 := h 6 _ rfl; rwa [Nat.zero_add] at h1, by have h1 := h 7 _ rfl; rwa [Nat.zero_add] at h1, by have h1 := h 8 _ rfl; rwa [Nat.zero_add] at h1, by have h1 := h 9 _ rfl; rwa [Nat.zero_add] at h1, by have h1 := h 10 _ rfl; rwa [Nat.zero_add] at h1, by have h1 := h 11 _ rfl; rwa [Nat.zero_add] at h1, by have h1 := h 12 _ rfl; rwa [Nat.zero_add] at h1, by have h1 := h 13 _ rfl; rwa [Nat.zero_add] at h1, by have h1 := h 14 _ rfl; rwa [Nat.zero_add] at h1, by have h1 := h 15 _ rfl; rwa [Nat.zero_add] at h1⟩
  refine bodyPost_ret (v := .tuple #[.agg #[.int .i64 0, .int .i64 0, .int .i64 0, .int .i64 0, .int .i64 0, .int .i64 0, .int .i64 0, .int .i64 0, .int .i64 0, .int .i64 0, .int .i64 0, .int .i64 0, .int .i64 0, .int .i64 0, .int .i64 0, .int .i64 0], .int .i64 50]) (by simp [results, Try.results43, go_sem, q0, q1, q2, q3, q4, q5, q6, q7, q8, q9, q10, q11, q12, q13, q14, q15]) rfl ⟨rfl, DZ⟩

end Go.Proofs.Ytgbnpnenejgnnaa

namespace Go.Proofs.Ytgbnpnenejgnnaa
open Go.RowKit Encl
set_option maxRecDepth 100000 in
set_option maxHeartbeats 8000000 in
theorem eStar_noq (a0 b0 c0 d0 a1 b1 c1 d1 a2 b2 c2 d2 a3 b3 c3 d3 e0 f0 g0 h0 e1 f1 g1 h1 e2 f2 g2 h2 e3 f3 g3 h3 : Int) (w : World) (hp : okP ⟨⟨a0, b0⟩, ⟨c0, d0⟩⟩ ⟨⟨a1, b1⟩, ⟨c1, d1⟩⟩ ⟨⟨a2, b2⟩, ⟨c2, d2⟩⟩ ⟨⟨a3, b3⟩, ⟨c3, d3⟩⟩ = true) (hq : okP ⟨⟨e0, f0⟩, ⟨g0, h0⟩⟩ ⟨⟨e1, f1⟩, ⟨g1, h1⟩⟩ ⟨⟨e2, f2⟩, ⟨g2, h2⟩⟩ ⟨⟨e3, f3⟩, ⟨g3, h3⟩⟩ = false) :
    Calls Try.prog 43 #[.agg #[.int .i64 a0, .int .i64 b0, .int .i64 c0, .int .i64 d0, .int .i64 a1, .int .i64 b1, .int .i64 c1, .int .i64 d1, .int .i64 a2, .int .i64 b2, .int .i64 c2, .int .i64 d2, .int .i64 a3, .int .i64 b3, .int .i64 c3, .int .i64 d3], .agg #[.int .i64 e0, .int .i64 f0, .int .i64 g0, .int .i64 h0, .int .i64 e1, .int .i64 f1, .int .i64 g1, .int .i64 h1, .int .i64 e2, .int .i64 f2, .int .i64 g2, .int .i64 h2, .int .i64 e3, .int .i64 f3, .int .i64 g3, .int .i64 h3]] w fun e w' => e = OutO (.bad 50) ∧ Below w.heap.size w w' := by
  have hmf : ∀ (fn : Fn) (first cap : Array Value) (w : World), (Instr.makeFunc fn first cap).run Try.prog w = .ok (.func fn first cap) w := fun _ _ _ _ => rfl
  have HBP := Lib.hid hp
  have HBQ := Lib.hid hq
  go_enter Try.func43, Try.ntmps43
  go_upto_region 1 with fail
  have hb0 : Below w.heap.size w (((w.alloc (.cells #[.int .i64 a0, .int .i64 b0, .int .i64 c0, .int .i64 d0, .int .i64 a1, .int .i64 b1, .int .i64 c1, .int .i64 d1, .int .i64 a2, .int .i64 b2, .int .i64 c2, .int .i64 d2, .int .i64 a3, .int .i64 b3, .int .i64 c3, .int .i64 d3] 49)).alloc (.cells #[.int .i64 e0, .int .i64 f0, .int .i64 g0, .int .i64 h0, .int .i64 e1, .int .i64 f1, .int .i64 g1, .int .i64 h1, .int .i64 e2, .int .i64 f2, .int .i64 g2, .int .i64 h2, .int .i64 e3, .int .i64 f3, .int .i64 g3, .int .i64 h3] 49)).alloc (.cells #[.int .i64 0, .int .i64 0, .int .i64 0, .int .i64 0, .int .i64 0, .int .i64 0, .int .i64 0, .int .i64 0, .int .i64 0, .int .i64 0, .int .i64 0, .int .i64 0, .int .i64 0, .int .i64 0, .int .i64 0, .int .i64 0] 49)) := by go_grown
  have bP : (((w.alloc (.cells #[.int .i64 a0, .int .i64 b0, .int .i64 c0, .int .i64 d0, .int .i64 a1, .int .i64 b1, .int .i64 c1, .int .i64 d1, .int .i64 a2, .int .i64 b2, .int .i64 c2, .int .i64 d2, .int .i64 a3, .int .i64 b3, .int .i64 c3, .int .i64 d3] 49)).alloc (.cells #[.int .i64 e0, .int .i64 f0, .int .i64 g0, .int .i64 h0, .int .i64 e1, .int .i64 f1, .int .i64 g1, .int .i64 h1, .int .i64 e2, .int .i64 f2, .int .i64 g2, .int .i64 h2, .int .i64 e3, .int .i64 f3, .int .i64 g3, .int .i64 h3] 49)).alloc (.cells #[.int .i64 0, .int .i64 0, .int .i64 0, .int .i64 0, .int .i64 0, .int .i64 0, .int .i64 0, .int .i64 0, .int .i64 0, .int .i64 0, .int .i64 0, .int .i64 0, .int .i64 0, .int .i64 0, .int .i64 0, .int .i64 0] 49)).heap[w.heap.size]? = some (.cells #[.int .i64 a0, .int .i64 b0, .int .i64 c0, .int .i64 d0, .int .i64 a1, .int .i64 b1, .int .i64 c1, .int .i64 d1, .int .i64 a2, .int .i64 b2, .int .i64 c2, .int .i64 d2, .int .i64 a3, .int .i64 b3, .int .i64 c3, .int .i64 d3] 49 (0, 0)) := (Below.heap_alloc _ _ _ (by first | omega | (simp; done) | (simp; omega))).trans ((Below.heap_alloc _ _ _ (by first | omega | (simp; done) | (simp; omega))).trans (heap_alloc_new w _))
  have bQ : (((w.alloc (.cells #[.int .i64 a0, .int .i64 b0, .int .i64 c0, .int .i64 d0, .int .i64 a1, .int .i64 b1, .int .i64 c1, .int .i64 d1, .int .i64 a2, .int .i64 b2, .int .i64 c2, .int .i64 d2, .int .i64 a3, .int .i64 b3, .int .i64 c3, .int .i64 d3] 49)).alloc (.cells #[.int .i64 e0, .int .i64 f0, .int .i64 g0, .int .i64 h0, .int .i64 e1, .int .i64 f1, .int .i64 g1, .int .i64 h1, .int .i64 e2, .int .i64 f2, .int .i64 g2, .int .i64 h2, .int .i64 e3, .int .i64 f3, .int .i64 g3, .int .i64 h3] 49)).alloc (.cells #[.int .i64 0, .int .i64 0, .int .i64 0, .int .i64 0, .int .i64 0, .int .i64 0, .int .i64 0, .int .i64 0, .int .i64 0, .int .i64 0, .int .i64 0, .int .i64 0, .int .i64 0, .int .i64 0, .int .i64 0, .int .i64 0] 49)).heap[w.heap.size + 1]? = some (.cells #[.int .i64 e0, .int .i64 f0, .int .i64 g0, .int .i64 h0, .int .i64 e1, .int .i64 f1, .int .i64 g1, .int .i64 h1, .int .i64 e2, .int .i64 f2, .int .i64 g2, .int .i64 h2, .int .i64 e3, .int .i64 f3, .int .i64 g3, .int .i64 h3] 49 (0, 0)) := (Below.heap_alloc _ _ _ (by first | omega | (simp; done) | (simp; omega))).trans (by
    have h := heap_alloc_new (w.alloc (.cells #[.int .i64 a0, .int .i64 b0, .int .i64 c0, .int .i64 d0, .int .i64 a1, .int .i64 b1, .int .i64 c1, .int .i64 d1, .int .i64 a2, .int .i64 b2, .int .i64 c2, .int .i64 d2, .int .i64 a3, .int .i64 b3, .int .i64 c3, .int .i64 d3] 49)) (.cells #[.int .i64 e0, .int .i64 f0, .int .i64 g0, .int .i64 h0, .int .i64 e1, .int .i64 f1, .int .i64 g1, .int .i64 h1, .int .i64 e2, .int .i64 f2, .int .i64 g2, .int .i64 h2, .int .i64 e3, .int .i64 f3, .int .i64 g3, .int .i64 h3] 49)
    rwa [World.size_alloc] at h)
  have bT : (((w.alloc (.cells #[.int .i64 a0, .int .i64 b0, .int .i64 c0, .int .i64 d0, .int .i64 a1, .int .i64 b1, .int .i64 c1, .int .i64 d1, .int .i64 a2, .int .i64 b2, .int .i64 c2, .int .i64 d2, .int .i64 a3, .int .i64 b3, .int .i64 c3, .int .i64 d3] 49)).alloc (.cells #[.int .i64 e0, .int .i64 f0, .int .i64 g0, .int .i64 h0, .int .i64 e1, .int .i64 f1, .int .i64 g1, .int .i64 h1, .int .i64 e2, .int .i64 f2, .int .i64 g2, .int .i64 h2, .int .i64 e3, .int .i64 f3, .int .i64 g3, .int .i64 h3] 49)).alloc (.cells #[.int .i64 0, .int .i64 0, .int .i64 0, .int .i64 0, .int .i64 0, .int .i64 0, .int .i64 0, .int .i64 0, .int .i64 0, .int .i64 0, .int .i64 0, .int .i64 0, .int .i64 0, .int .i64 0, .int .i64 0, .int .i64 0] 49)).heap[w.heap.size + 1 + 1]? = some (.cells #[.int .i64 0, .int .i64 0, .int .i64 0, .int .i64 0, .int .i64 0, .int .i64 0, .int .i64 0, .int .i64 0, .int .i64 0, .int .i64 0, .int .i64 0, .int .i64 0, .int .i64 0, .int .i64 0, .int .i64 0, .int .i64 0] 49 (0, 0)) := by
    have h := heap_alloc_new ((w.alloc (.cells #[.int .i64 a0, .int .i64 b0, .int .i64 c0, .int .i64 d0, .int .i64 a1, .int .i64 b1, .int .i64 c1, .int .i64 d1, .int .i64 a2, .int .i64 b2, .int .i64 c2, .int .i64 d2, .int .i64 a3, .int .i64 b3, .int .i64 c3, .int .i64 d3] 49)).alloc (.cells #[.int .i64 e0, .int .i64 f0, .int .i64 g0, .int .i64 h0, .int .i64 e1, .int .i64 f1, .int .i64 g1, .int .i64 h1, .int .i64 e2, .int .i64 f2, .int .i64 g2, .int .i64 h2, .int .i64 e3, .int .i64 f3, .int .i64 g3, .int .i64 h3] 49)) (.cells #[.int .i64 0, .int .i64 0, .int .i64 0, .int .i64 0, .int .i64 0, .int .i64 0, .int .i64 0, .int .i64 0, .int .i64 0, .int .i64 0, .int .i64 0, .int .i64 0, .int .i64 0, .int .i64 0, .int .i64 0, .int .i64 0] 49)
    rwa [World.size_alloc, World.size_alloc] at h
  have hsz : w.heap.size + 1 + 1 < (((w.alloc (.cells #[.int .i64 a0, .int .i64 b0, .int .i64 c0, .int .i64 d0, .int .i64 a1, .int .i64 b1, .int .i64 c1, .int .i64 d1, .int .i64 a2, .int .i64 b2, .int .i64 c2, .int .i64 d2, .int .i64 a3, .int .i64 b3, .int .i64 c3, .int .i64 d3] 49)).alloc (.cells #[.int .i64 e0, .int .i64 f0, .int .i64 g0, .int .i64 h0, .int .i64 e1, .int .i64 f1, .int .i64 g1, .int .i64 h1, .int .i64 e2, .int .i64 f2, .int .i64 g2, .int .i64 h2, .int .i64 e3, .int .i64 f3, .int .i64 g3, .int .i64 h3] 49)).alloc (.cells #[.int .i64 0, .int .i64 0, .int .i64 0, .int .i64 0, .int .i64 0, .int .i64 0, .int .i64 0, .int .i64 0, .int .i64 0, .int .i64 0, .int .i64 0, .int .i64 0, .int .i64 0, .int .i64 0, .int .i64 0, .int .i64 0] 49)).heap.size := by simp
  generalize (((w.alloc (.cells #[.int .i64 a0, .int .i64 b0, .int .i64 c0, .int .i64 d0, .int .i64 a1, .int .i64 b1, .int .i64 c1, .int .i64 d1, .int .i64 a2, .int .i64 b2, .int .i64 c2, .int .i64 d2, .int .i64 a3, .int .i64 b3, .int .i64 c3, .int .i64 d3] 49)).alloc (.cells #[.int .i64 e0, .int .i64 f0, .int .i64 g0, .int .i64 h0, .int .i64 e1, .int .i64 f1, .int .i64 g1, .int .i64 h1, .int .i64 e2, .int .i64 f2, .int .i64 g2, .int .i64 h2, .int .i64 e3, .int .i64 f3, .int .i64 g3, .int .i64 h3] 49)).alloc (.cells #[.int .i64 0, .int .i64 0, .int .i64 0, .int .i64 0, .int .i64 0, .int .i64 0, .int .i64 0, .int .i64 0, .int .i64 0, .int .i64 0, .int .i64 0, .int .i64 0, .int .i64 0, .int .i64 0, .int .i64 0, .int .i64 0] 49)) = W at *
  have lP : w.heap.size < W.heap.size := by omega
  have lQ : w.heap.size + 1 < W.heap.size := by omega
  have G0 : Hid (∀ w', Below W.heap.size W w' → w'.heap[w.heap.size]? = some (.cells #[.int .i64 a0, .int .i64 b0, .int .i64 c0, .int .i64 d0, .int .i64 a1, .int .i64 b1, .int .i64 c1, .int .i64 d1, .int .i64 a2, .int .i64 b2, .int .i64 c2, .int .i64 d2, .int .i64 a3, .int .i64 b3, .int .i64 c3, .int .i64 d3] 49 (0, 0)) ∧ w'.heap[w.heap.size + 1]? = some (.cells #[.int .i64 e0, .int .i64 f0, .int .i64 g0, .int .i64 h0, .int .i64 e1, .int .i64 f1, .int .i64 g1, .int .i64 h1, .int .i64 e2, .int .i64 f2, .int .i64 g2, .int .i64 h2, .int .i64 e3, .int .i64 f3, .int .i64 g3, .int .i64 h3] 49 (0, 0))) := Lib.hid (fun w' hb => ⟨(hb.block _ lP).trans bP, (hb.block _ lQ).trans bQ⟩)
  have G1 : Hid (∀ w', Below W.heap.size W w' → w'.heap[w.heap.size + 1 + 1]? = some (.cells #[.int .i64 0, .int .i64 0, .int .i64 0, .int .i64 0, .int .i64 0, .int .i64 0, .int .i64 0, .int .i64 0, .int .i64 0, .int .i64 0, .int .i64 0, .int .i64 0, .int .i64 0, .int .i64 0, .int .i64 0, .int .i64 0] 49 (0, 0))) := Lib.hid (fun w' hb => (hb.block _ hsz).trans bT)
  have HB0 := Lib.hid hb0
  have HRP := Lib.hid (range_row bP 0 [.int .i64 a0, .int .i64 b0, .int .i64 c0, .int .i64 d0, .int .i64 a1, .int .i64 b1, .int .i64 c1, .int .i64 d1, .int .i64 a2, .int .i64 b2, .int .i64 c2, .int .i64 d2, .int .i64 a3, .int .i64 b3, .int .i64 c3, .int .i64 d3] (fun j hj => by simp only [Nat.zero_add, List.getElem?_toArray]))
  clear hb0 bP bQ bT
  refine wp_region_lit ?_
  refine wpList_load_mid rfl 49 (.tmp 2) rfl w.heap.size 0 rfl [.int .i64 a0, .int .i64 b0, .int .i64 c0, .int .i64 d0, .int .i64 a1, .int .i64 b1, .int .i64 c1, .int .i64 d1, .int .i64 a2, .int .i64 b2, .int .i64 c2, .int .i64 d2, .int .i64 a3, .int .i64 b3, .int .i64 c3, .int .i64 d3] _ HRP.out Try.underlying49 rfl (by kernel_rfl) ?_
  refine wpList_step (fun K hK => ?_)
  go_simp
  refine (eValidPort_any a0 b0 c0 d0 a1 b1 c1 d1 a2 b2 c2 d2 a3 b3 c3 d3 _).mono ?_
  rw [HBP.out]
  rintro e w1 ⟨rfl, hb⟩
  have D1 : Below W.heap.size W w1 := hb.mono (Nat.le_refl _)
  clear hb HRP
  refine hK _ _ ?_
  clear hK K
  refine wpList_step (fun K hK => ?_); go_simp; refine hK _ _ ?_; clear hK K
  refine wpList_step (fun K hK => ?_); go_simp; refine hK _ _ ?_; clear hK K
  have HRQ := Lib.hid (range_row (G0.out _ D1).2 0 [.int .i64 e0, .int .i64 f0, .int .i64 g0, .int .i64 h0, .int .i64 e1, .int .i64 f1, .int .i64 g1, .int .i64 h1, .int .i64 e2, .int .i64 f2, .int .i64 g2, .int .i64 h2, .int .i64 e3, .int .i64 f3, .int .i64 g3, .int .i64 h3] (fun j hj => by simp only [Nat.zero_add, List.getElem?_toArray]))
  have l1 := D1.size
  refine wpList_step (fun K hK => ?_)
  rw [if_pos (show Region.wanted _ _ = true from rfl)]
  refine wp_load_mid 49 (.tmp 3) rfl (w.heap.size + 1) 0 rfl [.int .i64 e0, .int .i64 f0, .int .i64 g0, .int .i64 h0, .int .i64 e1, .int .i64 f1, .int .i64 g1, .int .i64 h1, .int .i64 e2, .int .i64 f2, .int .i64 g2, .int .i64 h2, .int .i64 e3, .int .i64 f3, .int .i64 g3, .int .i64 h3] _ HRQ.out Try.underlying49 rfl (by kernel_rfl) ?_
  refine hK _ _ ?_
  clear hK K HRQ
  refine wpList_step (fun K hK => ?_)
  go_simp
  refine (eValidPort_any e0 f0 g0 h0 e1 f1 g1 h1 e2 f2 g2 h2 e3 f3 g3 h3 _).mono ?_
  rw [HBQ.out]
  rintro e w2 ⟨rfl, hb⟩
  have D2 : Below W.heap.size W w2 := D1.trans (hb.mono l1)
  clear hb D1 l1
  refine hK _ _ ?_
  clear hK K
  refine wpList_step (fun K hK => ?_); go_simp; refine hK _ _ ?_; clear hK K
  refine wpList_step (fun K hK => ?_); go_simp; refine hK _ _ ?_; clear hK K
  refine wpList_nil ?_
  go_upto_region 2 with fail
  refine wp_region_lit ?_
  refine wpList_step (fun K hK => ?_); go_simp; refine hK _ _ ?_; clear hK K
  have HTH := Lib.hid (there_row (G1.out _ D2) 16 (Nat.le_refl _))
  have HDF := Lib.hid (HB0.out.trans (D2.mono (by omega)))
  refine wpList_store_mid rfl 49 (.tmp 4) (.tmp 14) rfl (w.heap.size + 1 + 1) 0 #[.int .i64 0, .int .i64 0, .int .i64 0, .int .i64 0, .int .i64 0, .int .i64 0, .int .i64 0, .int .i64 0, .int .i64 0, .int .i64 0, .int .i64 0, .int .i64 0, .int .i64 0, .int .i64 0, .int .i64 0, .int .i64 0] rfl rfl HTH.out (by kernel_rfl) (by simp [Value.oneCell']) ?_
  have hload : (w2.setCells (w.heap.size + 1 + 1) 0 [.int .i64 0, .int .i64 0, .int .i64 0, .int .i64 0, .int .i64 0, .int .i64 0, .int .i64 0, .int .i64 0, .int .i64 0, .int .i64 0, .int .i64 0, .int .i64 0, .int .i64 0, .int .i64 0, .int .i64 0, .int .i64 0]).rangeAt (w.heap.size + 1 + 1) 0 [.int .i64 0, .int .i64 0, .int .i64 0, .int .i64 0, .int .i64 0, .int .i64 0, .int .i64 0, .int .i64 0, .int .i64 0, .int .i64 0, .int .i64 0, .int .i64 0, .int .i64 0, .int .i64 0, .int .i64 0, .int .i64 0] := World.rangeAt_setCells_same w2 _ _ _ HTH.out
  have DZ : Below w.heap.size w (w2.setCells (w.heap.size + 1 + 1) 0 [.int .i64 0, .int .i64 0, .int .i64 0, .int .i64 0, .int .i64 0, .int .i64 0, .int .i64 0, .int .i64 0, .int .i64 0, .int .i64 0, .int .i64 0, .int .i64 0, .int .i64 0, .int .i64 0, .int .i64 0, .int .i64 0]) := below_mids (by omega) _ _ HDF.out
  (try rw [show (#[.int .i64 0, .int .i64 0, .int .i64 0, .int .i64 0, .int .i64 0, .int .i64 0, .int .i64 0, .int .i64 0, .int .i64 0, .int .i64 0, .int .i64 0, .int .i64 0, .int .i64 0, .int .i64 0, .int .i64 0, .int .i64 0] : Array Value).toList = [.int .i64 0, .int .i64 0, .int .i64 0, .int .i64 0, .int .i64 0, .int .i64 0, .int .i64 0, .int .i64 0, .int .i64 0, .int .i64 0, .int .i64 0, .int .i64 0, .int .i64 0, .int .i64 0, .int .i64 0, .int .i64 0] from rfl])
  generalize w2.setCells (w.heap.size + 1 + 1) 0 [.int .i64 0, .int .i64 0, .int .i64 0, .int .i64 0, .int .i64 0, .int .i64 0, .int .i64 0, .int .i64 0, .int .i64 0, .int .i64 0, .int .i64 0, .int .i64 0, .int .i64 0, .int .i64 0, .int .i64 0, .int .i64 0] = W3 at *
  have HL := Lib.hid hload
  clear hload HTH HDF G0 G1 HB0
  refine wpList_step (fun K hK => ?_); go_simp; refine hK _ _ ?_; clear hK K
  refine wpList_nil ?_
  go_wp2_with fail
  obtain ⟨q0, q1, q2, q3, q4, q5, q6, q7, q8, q9, q10, q11, q12, q13, q14, q15⟩ : (W3.cell? ⟨w.heap.size + 1 + 1, 0, none⟩ = some (.int .i64 0) ∧ W3.cell? ⟨w.heap.size + 1 + 1, 1, none⟩ = some (.int .i64 0) ∧ W3.cell? ⟨w.heap.size + 1 + 1, 2, none⟩ = some (.int .i64 0) ∧ W3.cell? ⟨w.heap.size + 1 + 1, 3, none⟩ = some (.int .i64 0) ∧ W3.cell? ⟨w.heap.size + 1 + 1, 4, none⟩ = some (.int .i64 0) ∧ W3.cell? ⟨w.heap.size + 1 + 1, 5, none⟩ = some (.int .i64 0) ∧ W3.cell? ⟨w.heap.size + 1 + 1, 6, none⟩ = some (.int .i64 0) ∧ W3.cell? ⟨w.heap.size + 1 + 1, 7, none⟩ = some (.int .i64 0) ∧ W3.cell? ⟨w.heap.size + 1 + 1, 8, none⟩ = some (.int .i64 0) ∧ W3.cell? ⟨w.heap.size + 1 + 1, 9, none⟩ = some (.int .i64 0) ∧ W3.cell? ⟨w.heap.size + 1 + 1, 10, none⟩ = some (.int .i64 0) ∧ W3.cell? ⟨w.heap.size + 1 + 1, 11, none⟩ = some (.int .i64 0) ∧ W3.cell? ⟨w.heap.size + 1 + 1, 12, none⟩ = some (.int .i64 0) ∧ W3.cell? ⟨w.heap.size + 1 + 1, 13, none⟩ = some (.int .i64 0) ∧ W3.cell? ⟨w.heap.size + 1 + 1, 14, none⟩ = some (.int .i64 0) ∧ W3.cell? ⟨w.heap.size + 1 + 1, 15, none⟩ = some (.int .i64 0)) := by
    have h := HL.out
    refine ⟨by have h1 := h 0 _ rfl; rwa [Nat.zero_add] at h1, by have h1 := h 1 _ rfl; rwa [Nat.zero_add] at h1, by have h1 := h 2 _ rfl; rwa [Nat.zero_add] at h1, by have h1 := h 3 _ rfl; rwa [Nat.zero_add] at h1, by have h1 := h 4 _ rfl; rwa [Nat.zero_add] at h1, by have h1 := h 5 _ rfl; rwa [Nat.zero_add] at h1, by have h1 := h 6 _ rfl; rwa [Nat.zero_add] at h1, by have h1 := h 7 _ rfl; rwa [Nat.zero_add] at h1, by have h1 := h 8 _ rfl; rwa [Nat.zero_add] at h1, by have h1 := h 9 _ rfl; rwa [Nat.zero_add] at h1, by have h1 := h 10 _ rfl; rwa [Nat.zero_add] at h1, by have h1 := h 11 _ rfl; rwa [Nat.zero_add] at h1, by have h1 := h 12 _ rfl; rwa [Nat.zero_add] at h1, by have h1 := h 13 _ rfl; rwa [Nat.zero_add] at h1, by have h1 := h 14 _ rfl; rwa [Nat.zero_add] at h1, by have h1 := h 15 _ rfl; rwa [Nat.zero_add] at h1⟩
  refine bodyPost_ret (v := .tuple #[.agg #[.int .i64 0, .int .i64 0, .int .i64 0, .int .i64 0, .int .i64 0, .int .i64 0, .int .i64 0, .int .i64 0, .int .i64 0, .int .i64 0, .int .i64 0, .int .i64 0, .int .i64 0, .int .i64 0, .int .i64 0, .int .i64 0], .int .i64 50]) (by simp [results, Try.results43, go_sem, q0, q1, q2, q3, q4, q5, q6, q7, q8, q9, q10, q11, q12, q13, q14, q15]) rfl ⟨rfl, DZ⟩

end Go.Proofs.Ytgbnpnenejgnnaa

namespace Go.Proofs.Ytgbnpnenejgnnaa
open Go.RowKit Encl
set_option maxRecDepth 100000 in
set_option maxHeartbeats 8000000 in
theorem starC_any (a0 b0 c0 d0 a1 b1 c1 d1 a2 b2 c2 d2 a3 b3 c3 d3 e0 f0 g0 h0 e1 f1 g1 h1 e2 f2 g2 h2 e3 f3 g3 h3 : Int) (ga gb : Nat) (w : World) (hp : okP ⟨⟨a0, b0⟩, ⟨c0, d0⟩⟩ ⟨⟨a1, b1⟩, ⟨c1, d1⟩⟩ ⟨⟨a2, b2⟩, ⟨c2, d2⟩⟩ ⟨⟨a3, b3⟩, ⟨c3, d3⟩⟩ = true) (hq : okP ⟨⟨e0, f0⟩, ⟨g0, h0⟩⟩ ⟨⟨e1, f1⟩, ⟨g1, h1⟩⟩ ⟨⟨e2, f2⟩, ⟨g2, h2⟩⟩ ⟨⟨e3, f3⟩, ⟨g3, h3⟩⟩ = true) (hga : w.heap[ga]? = some (.cells #[.int .i64 a0, .int .i64 b0, .int .i64 c0, .int .i64 d0, .int .i64 a1, .int .i64 b1, .int .i64 c1, .int .i64 d1, .int .i64 a2, .int .i64 b2, .int .i64 c2, .int .i64 d2, .int .i64 a3, .int .i64 b3, .int .i64 c3, .int .i64 d3] 49 (0, 0))) (hgb : w.heap[gb]? = some (.cells #[.int .i64 e0, .int .i64 f0, .int .i64 g0, .int .i64 h0, .int .i64 e1, .int .i64 f1, .int .i64 g1, .int .i64 h1, .int .i64 e2, .int .i64 f2, .int .i64 g2, .int .i64 h2, .int .i64 e3, .int .i64 f3, .int .i64 g3, .int .i64 h3] 49 (0, 0))) :
    Calls Try.prog 95 #[.pointer (some ⟨ga, 0, none⟩), .pointer (some ⟨gb, 0, none⟩)] w fun e w' => IsO e (starR ⟨⟨⟨a0, b0⟩, ⟨c0, d0⟩⟩, ⟨⟨a1, b1⟩, ⟨c1, d1⟩⟩, ⟨⟨a2, b2⟩, ⟨c2, d2⟩⟩, ⟨⟨a3, b3⟩, ⟨c3, d3⟩⟩⟩ ⟨⟨⟨e0, f0⟩, ⟨g0, h0⟩⟩, ⟨⟨e1, f1⟩, ⟨g1, h1⟩⟩, ⟨⟨e2, f2⟩, ⟨g2, h2⟩⟩, ⟨⟨e3, f3⟩, ⟨g3, h3⟩⟩⟩) ∧ Below w.heap.size w w' := by
  obtain ⟨SP, hsp⟩ : ∃ SP, starR ⟨⟨⟨a0, b0⟩, ⟨c0, d0⟩⟩, ⟨⟨a1, b1⟩, ⟨c1, d1⟩⟩, ⟨⟨a2, b2⟩, ⟨c2, d2⟩⟩, ⟨⟨a3, b3⟩, ⟨c3, d3⟩⟩⟩ ⟨⟨⟨e0, f0⟩, ⟨g0, h0⟩⟩, ⟨⟨e1, f1⟩, ⟨g1, h1⟩⟩, ⟨⟨e2, f2⟩, ⟨g2, h2⟩⟩, ⟨⟨e3, f3⟩, ⟨g3, h3⟩⟩⟩ = SP := ⟨_, rfl⟩
  have HSP := Lib.hid hsp
  rw [hsp]
  clear hsp
  have HOP := Lib.hid hp
  have HOQ := Lib.hid hq
  have l1 : ga < w.heap.size := (Array.getElem?_eq_some_iff.1 hga).1
  have l2 : gb < w.heap.size := (Array.getElem?_eq_some_iff.1 hgb).1
  go_enter Try.func95, Try.ntmps95
  go_upto_region 1 with fail
  have hb0 : Below w.heap.size w (w.alloc (.cells #[.int .i64 0, .int .i64 0, .int .i64 0, .int .i64 0, .int .i64 0, .int .i64 0, .int .i64 0, .int .i64 0, .int .i64 0, .int .i64 0, .int .i64 0, .int .i64 0, .int .i64 0, .int .i64 0, .int .i64 0, .int .i64 0] 49)) := by go_grown
  have HR1 := Lib.hid (range_row ((hb0.block _ l1).trans hga) 0 [.int .i64 a0, .int .i64 b0, .int .i64 c0, .int .i64 d0, .int .i64 a1, .int .i64 b1, .int .i64 c1, .int .i64 d1, .int .i64 a2, .int .i64 b2, .int .i64 c2, .int .i64 d2, .int .i64 a3, .int .i64 b3, .int .i64 c3, .int .i64 d3] (fun j hj => by simp only [Nat.zero_add, List.getElem?_toArray]))
  have HR2 := Lib.hid (range_row ((hb0.block _ l2).trans hgb) 0 [.int .i64 e0, .int .i64 f0, .int .i64 g0, .int .i64 h0, .int .i64 e1, .int .i64 f1, .int .i64 g1, .int .i64 h1, .int .i64 e2, .int .i64 f2, .int .i64 g2, .int .i64 h2, .int .i64 e3, .int .i64 f3, .int .i64 g3, .int .i64 h3] (fun j hj => by simp only [Nat.zero_add, List.getElem?_toArray]))
  have bT : (w.alloc (.cells #[.int .i64 0, .int .i64 0, .int .i64 0, .int .i64 0, .int .i64 0, .int .i64 0, .int .i64 0, .int .i64 0, .int .i64 0, .int .i64 0, .int .i64 0, .int .i64 0, .int .i64 0, .int .i64 0, .int .i64 0, .int .i64 0] 49)).heap[w.heap.size]? = some (.cells #[.int .i64 0, .int .i64 0, .int .i64 0, .int .i64 0, .int .i64 0, .int .i64 0, .int .i64 0, .int .i64 0, .int .i64 0, .int .i64 0, .int .i64 0, .int .i64 0, .int .i64 0, .int .i64 0, .int .i64 0, .int .i64 0] 49 (0, 0)) := heap_alloc_new w _
  have lT : w.heap.size < (w.alloc (.cells #[.int .i64 0, .int .i64 0, .int .i64 0, .int .i64 0, .int .i64 0, .int .i64 0, .int .i64 0, .int .i64 0, .int .i64 0, .int .i64 0, .int .i64 0, .int .i64 0, .int .i64 0, .int .i64 0, .int .i64 0, .int .i64 0] 49)).heap.size := by simp
  clear hga hgb hp hq
  generalize (w.alloc (.cells #[.int .i64 0, .int .i64 0, .int .i64 0, .int .i64 0, .int .i64 0, .int .i64 0, .int .i64 0, .int .i64 0, .int .i64 0, .int .i64 0, .int .i64 0, .int .i64 0, .int .i64 0, .int .i64 0, .int .i64 0, .int .i64 0] 49)) = W at *
  have HB0 := Lib.hid hb0
  have HBT := Lib.hid bT
  clear hb0 bT
  refine wp_region_lit ?_
  refine wpList_step (fun K hK => ?_); go_simp; refine hK _ _ ?_; clear hK K
  refine wpList_load_mid rfl 47 (.tmp 3) rfl ga 0 rfl [.int .i64 a0, .int .i64 b0, .int .i64 c0, .int .i64 d0, .int .i64 a1, .int .i64 b1, .int .i64 c1, .int .i64 d1, .int .i64 a2, .int .i64 b2, .int .i64 c2, .int .i64 d2, .int .i64 a3, .int .i64 b3, .int .i64 c3, .int .i64 d3] _ HR1.out Try.underlying47 rfl (by kernel_rfl) ?_
  refine wpList_step (fun K hK => ?_); go_simp; refine hK _ _ ?_; clear hK K
  refine wpList_load_mid rfl 47 (.tmp 5) rfl gb 0 rfl [.int .i64 e0, .int .i64 f0, .int .i64 g0, .int .i64 h0, .int .i64 e1, .int .i64 f1, .int .i64 g1, .int .i64 h1, .int .i64 e2, .int .i64 f2, .int .i64 g2, .int .i64 h2, .int .i64 e3, .int .i64 f3, .int .i64 g3, .int .i64 h3] _ HR2.out Try.underlying47 rfl (by kernel_rfl) ?_
  refine wpList_step (fun K hK => ?_)
  go_simp
  refine (joined_any a0 b0 c0 d0 a1 b1 c1 d1 a2 b2 c2 d2 a3 b3 c3 d3 e0 f0 g0 h0 e1 f1 g1 h1 e2 f2 g2 h2 e3 f3 g3 h3 _ HOP.out HOQ.out).mono ?_
  rw [HSP.out]
  rintro e w1 ⟨he, hb⟩
  have D1 : Below w.heap.size w w1 := HB0.out.trans (hb.mono (by omega))
  have HTB := Lib.hid ((hb.block _ lT).trans HBT.out)
  have HTH := Lib.hid (there_row HTB.out 16 (Nat.le_refl _))
  clear hb HB0 HBT HR1 HR2
  rcases SP with ⟨⟨⟨a0, b0⟩, ⟨c0, d0⟩⟩, ⟨⟨a1, b1⟩, ⟨c1, d1⟩⟩, ⟨⟨a2, b2⟩, ⟨c2, d2⟩⟩, ⟨⟨a3, b3⟩, ⟨c3, d3⟩⟩⟩ | k
  · obtain rfl : e = .returned (.agg #[.int .i64 a0, .int .i64 b0, .int .i64 c0, .int .i64 d0, .int .i64 a1, .int .i64 b1, .int .i64 c1, .int .i64 d1, .int .i64 a2, .int .i64 b2, .int .i64 c2, .int .i64 d2, .int .i64 a3, .int .i64 b3, .int .i64 c3, .int .i64 d3]) := he
    refine hK _ _ ?_
    clear hK K
    refine wpList_store_mid rfl 49 (.tmp 2) (.tmp 7) rfl w.heap.size 0 #[.int .i64 a0, .int .i64 b0, .int .i64 c0, .int .i64 d0, .int .i64 a1, .int .i64 b1, .int .i64 c1, .int .i64 d1, .int .i64 a2, .int .i64 b2, .int .i64 c2, .int .i64 d2, .int .i64 a3, .int .i64 b3, .int .i64 c3, .int .i64 d3] rfl rfl HTH.out (by kernel_rfl) (by simp [Value.oneCell']) ?_
    have hload : (w1.setCells w.heap.size 0 [.int .i64 a0, .int .i64 b0, .int .i64 c0, .int .i64 d0, .int .i64 a1, .int .i64 b1, .int .i64 c1, .int .i64 d1, .int .i64 a2, .int .i64 b2, .int .i64 c2, .int .i64 d2, .int .i64 a3, .int .i64 b3, .int .i64 c3, .int .i64 d3]).rangeAt w.heap.size 0 [.int .i64 a0, .int .i64 b0, .int .i64 c0, .int .i64 d0, .int .i64 a1, .int .i64 b1, .int .i64 c1, .int .i64 d1, .int .i64 a2, .int .i64 b2, .int .i64 c2, .int .i64 d2, .int .i64 a3, .int .i64 b3, .int .i64 c3, .int .i64 d3] := World.rangeAt_setCells_same w1 _ _ _ HTH.out
    have DZ : Below w.heap.size w (w1.setCells w.heap.size 0 [.int .i64 a0, .int .i64 b0, .int .i64 c0, .int .i64 d0, .int .i64 a1, .int .i64 b1, .int .i64 c1, .int .i64 d1, .int .i64 a2, .int .i64 b2, .int .i64 c2, .int .i64 d2, .int .i64 a3, .int .i64 b3, .int .i64 c3, .int .i64 d3]) := below_mids (Nat.le_refl _) _ _ D1
    (try rw [show (#[.int .i64 a0, .int .i64 b0, .int .i64 c0, .int .i64 d0, .int .i64 a1, .int .i64 b1, .int .i64 c1, .int .i64 d1, .int .i64 a2, .int .i64 b2, .int .i64 c2, .int .i64 d2, .int .i64 a3, .int .i64 b3, .int .i64 c3, .int .i64 d3] : Array Value).toList = [.int .i64 a0, .int .i64 b0, .int .i64 c0, .int .i64 d0, .int .i64 a1, .int .i64 b1, .int .i64 c1, .int .i64 d1, .int .i64 a2, .int .i64 b2, .int .i64 c2, .int .i64 d2, .int .i64 a3, .int .i64 b3, .int .i64 c3, .int .i64 d3] from rfl])
    generalize w1.setCells w.heap.size 0 [.int .i64 a0, .int .i64 b0, .int .i64 c0, .int .i64 d0, .int .i64 a1, .int .i64 b1, .int .i64 c1, .int .i64 d1, .int .i64 a2, .int .i64 b2, .int .i64 c2, .int .i64 d2, .int .i64 a3, .int .i64 b3, .int .i64 c3, .int .i64 d3] = W3 at *
    have HL := Lib.hid hload
    clear hload HTH HTB D1
    refine wpList_nil ?_
    go_wp2_with fail
    obtain ⟨q0, q1, q2, q3, q4, q5, q6, q7, q8, q9, q10, q11, q12, q13, q14, q15⟩ : (W3.cell? ⟨w.heap.size, 0, none⟩ = some (.int .i64 a0) ∧ W3.cell? ⟨w.heap.size, 1, none⟩ = some (.int .i64 b0) ∧ W3.cell? ⟨w.heap.size, 2, none⟩ = some (.int .i64 c0) ∧ W3.cell? ⟨w.heap.size, 3, none⟩ = some (.int .i64 d0) ∧ W3.cell? ⟨w.heap.size, 4, none⟩ = some (.int .i64 a1) ∧ W3.cell? ⟨w.heap.size, 5, none⟩ = some (.int .i64 b1) ∧ W3.cell? ⟨w.heap.size, 6, none⟩ = some (.int .i64 c1) ∧ W3.cell? ⟨w.heap.size, 7, none⟩ = some (.int .i64 d1) ∧ W3.cell? ⟨w.heap.size, 8, none⟩ = some (.int .i64 a2) ∧ W3.cell? ⟨w.heap.size, 9, none⟩ = some (.int .i64 b2) ∧ W3.cell? ⟨w.heap.size, 10, none⟩ = some (.int .i64 c2) ∧ W3.cell? ⟨w.heap.size, 11, none⟩ = some (.int .i64 d2) ∧ W3.cell? ⟨w.heap.size, 12, none⟩ = some (.int .i64 a3) ∧ W3.cell? ⟨w.heap.size, 13, none⟩ = some (.int .i64 b3) ∧ W3.cell? ⟨w.heap.size, 14, none⟩ = some (.int .i64 c3) ∧ W3.cell? ⟨w.heap.size, 15, none⟩ = some (.int .i64 d3)) := by
      have h := HL.out
      refine ⟨by have h1 := h 0 _ rfl; rwa [Nat.zero_add] at h1, by have h1 := h 1 _ rfl; rwa [Nat.zero_add] at h1, by have h1 := h 2 _ rfl; rwa [Nat.zero_add] at h1, by have h1 := h 3 _ rfl; rwa [Nat.zero_add] at h1, by have h1 := h 4 _ rfl; rwa [Nat.zero_add] at h1, by have h1 := h 5 _ rfl; rwa [Nat.zero_add] at h1, by have h1 := h 6 _ rfl; rwa [Nat.zero_add] at h1, by have h1 := h 7 _ rfl; rwa [Nat.zero_add] at h1, by have h1 := h 8 _ rfl; rwa [Nat.zero_add] at h1, by have h1 := h 9 _ rfl; rwa [Nat.zero_add] at h1, by have h1 := h 10 _ rfl; rwa [Nat.zero_add] at h1, by have h1 := h 11 _ rfl; rwa [Nat.zero_add] at h1, by have h1 := h 12 _ rfl; rwa [Nat.zero_add] at h1, by have h1 := h 13 _ rfl; rwa [Nat.zero_add] at h1, by have h1 := h 14 _ rfl; rwa [Nat.zero_add] at h1, by have h1 := h 15 _ rfl; rwa [Nat.zero_add] at h1⟩
    refine bodyPost_ret (v := .agg #[.int .i64 a0, .int .i64 b0, .int .i64 c0, .int .i64 d0, .int .i64 a1, .int .i64 b1, .int .i64 c1, .int .i64 d1, .int .i64 a2, .int .i64 b2, .int .i64 c2, .int .i64 d2, .int .i64 a3, .int .i64 b3, .int .i64 c3, .int .i64 d3]) (by simp [results, Try.results95, go_sem, q0, q1, q2, q3, q4, q5, q6, q7, q8, q9, q10, q11, q12, q13, q14, q15]) rfl ⟨rfl, DZ⟩
  · obtain rfl : e = .panicked [{ v := .iface 26 (.int .i64 k), recovered := false }] := he
    go_wp2_with fail
    exact ⟨rfl, rfl, D1⟩
end Go.Proofs.Ytgbnpnenejgnnaa

namespace Go.Proofs.Ytgbnpnenejgnnaa
open Go.RowKit Encl
set_option maxRecDepth 100000 in
set_option maxHeartbeats 8000000 in
theorem eStar_ok (a0 b0 c0 d0 a1 b1 c1 d1 a2 b2 c2 d2 a3 b3 c3 d3 e0 f0 g0 h0 e1 f1 g1 h1 e2 f2 g2 h2 e3 f3 g3 h3 : Int) (w : World) (hp : okP ⟨⟨a0, b0⟩, ⟨c0, d0⟩⟩ ⟨⟨a1, b1⟩, ⟨c1, d1⟩⟩ ⟨⟨a2, b2⟩, ⟨c2, d2⟩⟩ ⟨⟨a3, b3⟩, ⟨c3, d3⟩⟩ = true) (hq : okP ⟨⟨e0, f0⟩, ⟨g0, h0⟩⟩ ⟨⟨e1, f1⟩, ⟨g1, h1⟩⟩ ⟨⟨e2, f2⟩, ⟨g2, h2⟩⟩ ⟨⟨e3, f3⟩, ⟨g3, h3⟩⟩ = true) :
    Calls Try.prog 43 #[.agg #[.int .i64 a0, .int .i64 b0, .int .i64 c0, .int .i64 d0, .int .i64 a1, .int .i64 b1, .int .i64 c1, .int .i64 d1, .int .i64 a2, .int .i64 b2, .int .i64 c2, .int .i64 d2, .int .i64 a3, .int .i64 b3, .int .i64 c3, .int .i64 d3], .agg #[.int .i64 e0, .int .i64 f0, .int .i64 g0, .int .i64 h0, .int .i64 e1, .int .i64 f1, .int .i64 g1, .int .i64 h1, .int .i64 e2, .int .i64 f2, .int .i64 g2, .int .i64 h2, .int .i64 e3, .int .i64 f3, .int .i64 g3, .int .i64 h3]] w fun e w' => e = OutO (starR ⟨⟨⟨a0, b0⟩, ⟨c0, d0⟩⟩, ⟨⟨a1, b1⟩, ⟨c1, d1⟩⟩, ⟨⟨a2, b2⟩, ⟨c2, d2⟩⟩, ⟨⟨a3, b3⟩, ⟨c3, d3⟩⟩⟩ ⟨⟨⟨e0, f0⟩, ⟨g0, h0⟩⟩, ⟨⟨e1, f1⟩, ⟨g1, h1⟩⟩, ⟨⟨e2, f2⟩, ⟨g2, h2⟩⟩, ⟨⟨e3, f3⟩, ⟨g3, h3⟩⟩⟩) ∧ Below w.heap.size w w' := by
  have hmf : ∀ (fn : Fn) (first cap : Array Value) (w : World), (Instr.makeFunc fn first cap).run Try.prog w = .ok (.func fn first cap) w := fun _ _ _ _ => rfl
  have HBP := Lib.hid hp
  have HBQ := Lib.hid hq
  obtain ⟨SP, hsp⟩ : ∃ SP, starR ⟨⟨⟨a0, b0⟩, ⟨c0, d0⟩⟩, ⟨⟨a1, b1⟩, ⟨c1, d1⟩⟩, ⟨⟨a2, b2⟩, ⟨c2, d2⟩⟩, ⟨⟨a3, b3⟩, ⟨c3, d3⟩⟩⟩ ⟨⟨⟨e0, f0⟩, ⟨g0, h0⟩⟩, ⟨⟨e1, f1⟩, ⟨g1, h1⟩⟩, ⟨⟨e2, f2⟩, ⟨g2, h2⟩⟩, ⟨⟨e3, f3⟩, ⟨g3, h3⟩⟩⟩ = SP := ⟨_, rfl⟩
  have HSP := Lib.hid hsp
  rw [hsp]
  clear hsp
  go_enter Try.func43, Try.ntmps43
  go_upto_region 1 with fail
  have hb0 : Below w.heap.size w (((w.alloc (.cells #[.int .i64 a0, .int .i64 b0, .int .i64 c0, .int .i64 d0, .int .i64 a1, .int .i64 b1, .int .i64 c1, .int .i64 d1, .int .i64 a2, .int .i64 b2, .int .i64 c2, .int .i64 d2, .int .i64 a3, .int .i64 b3, .int .i64 c3, .int .i64 d3] 49)).alloc (.cells #[.int .i64 e0, .int .i64 f0, .int .i64 g0, .int .i64 h0, .int .i64 e1, .int .i64 f1, .int .i64 g1, .int .i64 h1, .int .i64 e2, .int .i64 f2, .int .i64 g2, .int .i64 h2, .int .i64 e3, .int .i64 f3, .int .i64 g3, .int .i64 h3] 49)).alloc (.cells #[.int .i64 0, .int .i64 0, .int .i64 0, .int .i64 0, .int .i64 0, .int .i64 0, .int .i64 0, .int .i64 0, .int .i64 0, .int .i64 0, .int .i64 0, .int .i64 0, .int .i64 0, .int .i64 0, .int .i64 0, .int .i64 0] 49)) := by go_grown
  have bP : (((w.alloc (.cells #[.int .i64 a0, .int .i64 b0, .int .i64 c0, .int .i64 d0, .int .i64 a1, .int .i64 b1, .int .i64 c1, .int .i64 d1, .int .i64 a2, .int .i64 b2, .int .i64 c2, .int .i64 d2, .int .i64 a3, .int .i64 b3, .int .i64 c3, .int .i64 d3] 49)).alloc (.cells #[.int .i64 e0, .int .i64 f0, .int .i64 g0, .int .i64 h0, .int .i64 e1, .int .i64 f1, .int .i64 g1, .int .i64 h1, .int .i64 e2, .int .i64 f2, .int .i64 g2, .int .i64 h2, .int .i64 e3, .int .i64 f3, .int .i64 g3, .int .i64 h3] 49)).alloc (.cells #[.int .i64 0, .int .i64 0, .int .i64 0, .int .i64 0, .int .i64 0, .int .i64 0, .int .i64 0, .int .i64 0, .int .i64 0, .int .i64 0, .int .i64 0, .int .i64 0, .int .i64 0, .int .i64 0, .int .i64 0, .int .i64 0] 49)).heap[w.heap.size]? = some (.cells #[.int .i64 a0, .int .i64 b0, .int .i64 c0, .int .i64 d0, .int .i64 a1, .int .i64 b1, .int .i64 c1, .int .i64 d1, .int .i64 a2, .int .i64 b2, .int .i64 c2, .int .i64 d2, .int .i64 a3, .int .i64 b3, .int .i64 c3, .int .i64 d3] 49 (0, 0)) := (Below.heap_alloc _ _ _ (by first | omega | (simp; done) | (simp; omega))).trans ((Below.heap_alloc _ _ _ (by first | omega | (simp; done) | (simp; omega))).trans (heap_alloc_new w _))
  have bQ : (((w.alloc (.cells #[.int .i64 a0, .int .i64 b0, .int .i64 c0, .int .i64 d0, .int .i64 a1, .int .i64 b1, .int .i64 c1, .int .i64 d1, .int .i64 a2, .int .i64 b2, .int .i64 c2, .int .i64 d2, .int .i64 a3, .int .i64 b3, .int .i64 c3, .int .i64 d3] 49)).alloc (.cells #[.int .i64 e0, .int .i64 f0, .int .i64 g0, .int .i64 h0, .int .i64 e1, .int .i64 f1, .int .i64 g1, .int .i64 h1, .int .i64 e2, .int .i64 f2, .int .i64 g2, .int .i64 h2, .int .i64 e3, .int .i64 f3, .int .i64 g3, .int .i64 h3] 49)).alloc (.cells #[.int .i64 0, .int .i64 0, .int .i64 0, .int .i64 0, .int .i64 0, .int .i64 0, .int .i64 0, .int .i64 0, .int .i64 0, .int .i64 0, .int .i64 0, .int .i64 0, .int .i64 0, .int .i64 0, .int .i64 0, .int .i64 0] 49)).heap[w.heap.size + 1]? = some (.cells #[.int .i64 e0, .int .i64 f0, .int .i64 g0, .int .i64 h0, .int .i64 e1, .int .i64 f1, .int .i64 g1, .int .i64 h1, .int .i64 e2, .int .i64 f2, .int .i64 g2, .int .i64 h2, .int .i64 e3, .int .i64 f3, .int .i64 g3, .int .i64 h3] 49 (0, 0)) := (Below.heap_alloc _ _ _ (by first | omega | (simp; done) | (simp; omega))).trans (by
    have h := heap_alloc_new (w.alloc (.cells #[.int .i64 a0, .int .i64 b0, .int .i64 c0, .int .i64 d0, .int .i64 a1, .int .i64 b1, .int .i64 c1, .int .i64 d1, .int .i64 a2, .int .i64 b2, .int .i64 c2, .int .i64 d2, .int .i64 a3, .int .i64 b3, .int .i64 c3, .int .i64 d3] 49)) (.cells #[.int .i64 e0, .int .i64 f0, .int .i64 g0, .int .i64 h0, .int .i64 e1, .int .i64 f1, .int .i64 g1, .int .i64 h1, .int .i64 e2, .int .i64 f2, .int .i64 g2, .int .i64 h2, .int .i64 e3, .int .i64 f3, .int .i64 g3, .int .i64 h3] 49)
    rwa [World.size_alloc] at h)
  have bT : (((w.alloc (.cells #[.int .i64 a0, .int .i64 b0, .int .i64 c0, .int .i64 d0, .int .i64 a1, .int .i64 b1, .int .i64 c1, .int .i64 d1, .int .i64 a2, .int .i64 b2, .int .i64 c2, .int .i64 d2, .int .i64 a3, .int .i64 b3, .int .i64 c3, .int .i64 d3] 49)).alloc (.cells #[.int .i64 e0, .int .i64 f0, .int .i64 g0, .int .i64 h0, .int .i64 e1, .int .i64 f1, .int .i64 g1, .int .i64 h1, .int .i64 e2, .int .i64 f2, .int .i64 g2, .int .i64 h2, .int .i64 e3, .int .i64 f3, .int .i64 g3, .int .i64 h3] 49)).alloc (.cells #[.int .i64 0, .int .i64 0, .int .i64 0, .int .i64 0, .int .i64 0, .int .i64 0, .int .i64 0, .int .i64 0, .int .i64 0, .int .i64 0, .int .i64 0, .int .i64 0, .int .i64 0, .int .i64 0, .int .i64 0, .int .i64 0] 49)).heap[w.heap.size + 1 + 1]? = some (.cells #[.int .i64 0, .int .i64 0, .int .i64 0, .int .i64 0, .int .i64 0, .int .i64 0, .int .i64 0, .int .i64 0, .int .i64 0, .int .i64 0, .int .i64 0, .int .i64 0, .int .i64 0, .int .i64 0, .int .i64 0, .int .i64 0] 49 (0, 0)) := by
    have h := heap_alloc_new ((w.alloc (.cells #[.int .i64 a0, .int .i64 b0, .int .i64 c0, .int .i64 d0, .int .i64 a1, .int .i64 b1, .int .i64 c1, .int .i64 d1, .int .i64 a2, .int .i64 b2, .int .i64 c2, .int .i64 d2, .int .i64 a3, .int .i64 b3, .int .i64 c3, .int .i64 d3] 49)).alloc (.cells #[.int .i64 e0, .int .i64 f0, .int .i64 g0, .int .i64 h0, .int .i64 e1, .int .i64 f1, .int .i64 g1, .int .i64 h1, .int .i64 e2, .int .i64 f2, .int .i64 g2, .int .i64 h2, .int .i64 e3, .int .i64 f3, .int .i64 g3, .int .i64 h3] 49)) (.cells #[.int .i64 0, .int .i64 0, .int .i64 0, .int .i64 0, .int .i64 0, .int .i64 0, .int .i64 0, .int .i64 0, .int .i64 0, .int .i64 0, .int .i64 0, .int .i64 0, .int .i64 0, .int .i64 0, .int .i64 0, .int .i64 0] 49)
    rwa [World.size_alloc, World.size_alloc] at h
  have hsz : w.heap.size + 1 + 1 < (((w.alloc (.cells #[.int .i64 a0, .int .i64 b0, .int .i64 c0, .int .i64 d0, .int .i64 a1, .int .i64 b1, .int .i64 c1, .int .i64 d1, .int .i64 a2, .int .i64 b2, .int .i64 c2, .int .i64 d2, .int .i64 a3, .int .i64 b3, .int .i64 c3, .int .i64 d3] 49)).alloc (.cells #[.int .i64 e0, .int .i64 f0, .int .i64 g0, .int .i64 h0, .int .i64 e1, .int .i64 f1, .int .i64 g1, .int .i64 h1, .int .i64 e2, .int .i64 f2, .int .i64 g2, .int .i64 h2, .int .i64 e3, .int .i64 f3, .int .i64 g3, .int .i64 h3] 49)).alloc (.cells #[.int .i64 0, .int .i64 0, .int .i64 0, .int .i64 0, .int .i64 0, .int .i64 0, .int .i64 0, .int .i64 0, .int .i64 0, .int .i64 0, .int .i64 0, .int .i64 0, .int .i64 0, .int .i64 0, .int .i64 0, .int .i64 0] 49)).heap.size := by simp
  generalize (((w.alloc (.cells #[.int .i64 a0, .int .i64 b0, .int .i64 c0, .int .i64 d0, .int .i64 a1, .int .i64 b1, .int .i64 c1, .int .i64 d1, .int .i64 a2, .int .i64 b2, .int .i64 c2, .int .i64 d2, .int .i64 a3, .int .i64 b3, .int .i64 c3, .int .i64 d3] 49)).alloc (.cells #[.int .i64 e0, .int .i64 f0, .int .i64 g0, .int .i64 h0, .int .i64 e1, .int .i64 f1, .int .i64 g1, .int .i64 h1, .int .i64 e2, .int .i64 f2, .int .i64 g2, .int .i64 h2, .int .i64 e3, .int .i64 f3, .int .i64 g3, .int .i64 h3] 49)).alloc (.cells #[.int .i64 0, .int .i64 0, .int .i64 0, .int .i64 0, .int .i64 0, .int .i64 0, .int .i64 0, .int .i64 0, .int .i64 0, .int .i64 0, .int .i64 0, .int .i64 0, .int .i64 0, .int .i64 0, .int .i64 0, .int .i64 0] 49)) = W at *
  have lP : w.heap.size < W.heap.size := by omega
  have lQ : w.heap.size + 1 < W.heap.size := by omega
  have G0 : Hid (∀ w', Below W.heap.size W w' → w'.heap[w.heap.size]? = some (.cells #[.int .i64 a0, .int .i64 b0, .int .i64 c0, .int .i64 d0, .int .i64 a1, .int .i64 b1, .int .i64 c1, .int .i64 d1, .int .i64 a2, .int .i64 b2, .int .i64 c2, .int .i64 d2, .int .i64 a3, .int .i64 b3, .int .i64 c3, .int .i64 d3] 49 (0, 0)) ∧ w'.heap[w.heap.size + 1]? = some (.cells #[.int .i64 e0, .int .i64 f0, .int .i64 g0, .int .i64 h0, .int .i64 e1, .int .i64 f1, .int .i64 g1, .int .i64 h1, .int .i64 e2, .int .i64 f2, .int .i64 g2, .int .i64 h2, .int .i64 e3, .int .i64 f3, .int .i64 g3, .int .i64 h3] 49 (0, 0))) := Lib.hid (fun w' hb => ⟨(hb.block _ lP).trans bP, (hb.block _ lQ).trans bQ⟩)
  have G1 : Hid (∀ w', Below W.heap.size W w' → w'.heap[w.heap.size + 1 + 1]? = some (.cells #[.int .i64 0, .int .i64 0, .int .i64 0, .int .i64 0, .int .i64 0, .int .i64 0, .int .i64 0, .int .i64 0, .int .i64 0, .int .i64 0, .int .i64 0, .int .i64 0, .int .i64 0, .int .i64 0, .int .i64 0, .int .i64 0] 49 (0, 0))) := Lib.hid (fun w' hb => (hb.block _ hsz).trans bT)
  have HB0 := Lib.hid hb0
  have HRP := Lib.hid (range_row bP 0 [.int .i64 a0, .int .i64 b0, .int .i64 c0, .int .i64 d0, .int .i64 a1, .int .i64 b1, .int .i64 c1, .int .i64 d1, .int .i64 a2, .int .i64 b2, .int .i64 c2, .int .i64 d2, .int .i64 a3, .int .i64 b3, .int .i64 c3, .int .i64 d3] (fun j hj => by simp only [Nat.zero_add, List.getElem?_toArray]))
  clear hb0 bP bQ bT
  refine wp_region_lit ?_
  refine wpList_load_mid rfl 49 (.tmp 2) rfl w.heap.size 0 rfl [.int .i64 a0, .int .i64 b0, .int .i64 c0, .int .i64 d0, .int .i64 a1, .int .i64 b1, .int .i64 c1, .int .i64 d1, .int .i64 a2, .int .i64 b2, .int .i64 c2, .int .i64 d2, .int .i64 a3, .int .i64 b3, .int .i64 c3, .int .i64 d3] _ HRP.out Try.underlying49 rfl (by kernel_rfl) ?_
  refine wpList_step (fun K hK => ?_)
  go_simp
  refine (eValidPort_any a0 b0 c0 d0 a1 b1 c1 d1 a2 b2 c2 d2 a3 b3 c3 d3 _).mono ?_
  rw [HBP.out]
  rintro e w1 ⟨rfl, hb⟩
  have D1 : Below W.heap.size W w1 := hb.mono (Nat.le_refl _)
  clear hb HRP
  refine hK _ _ ?_
  clear hK K
  refine wpList_step (fun K hK => ?_); go_simp; refine hK _ _ ?_; clear hK K
  refine wpList_step (fun K hK => ?_); go_simp; refine hK _ _ ?_; clear hK K
  have HRQ := Lib.hid (range_row (G0.out _ D1).2 0 [.int .i64 e0, .int .i64 f0, .int .i64 g0, .int .i64 h0, .int .i64 e1, .int .i64 f1, .int .i64 g1, .int .i64 h1, .int .i64 e2, .int .i64 f2, .int .i64 g2, .int .i64 h2, .int .i64 e3, .int .i64 f3, .int .i64 g3, .int .i64 h3] (fun j hj => by simp only [Nat.zero_add, List.getElem?_toArray]))
  have l1 := D1.size
  refine wpList_step (fun K hK => ?_)
  rw [if_pos (show Region.wanted _ _ = true from rfl)]
  refine wp_load_mid 49 (.tmp 3) rfl (w.heap.size + 1) 0 rfl [.int .i64 e0, .int .i64 f0, .int .i64 g0, .int .i64 h0, .int .i64 e1, .int .i64 f1, .int .i64 g1, .int .i64 h1, .int .i64 e2, .int .i64 f2, .int .i64 g2, .int .i64 h2, .int .i64 e3, .int .i64 f3, .int .i64 g3, .int .i64 h3] _ HRQ.out Try.underlying49 rfl (by kernel_rfl) ?_
  refine hK _ _ ?_
  clear hK K HRQ
  refine wpList_step (fun K hK => ?_)
  go_simp
  refine (eValidPort_any e0 f0 g0 h0 e1 f1 g1 h1 e2 f2 g2 h2 e3 f3 g3 h3 _).mono ?_
  rw [HBQ.out]
  rintro e w2 ⟨rfl, hb⟩
  have D2 : Below W.heap.size W w2 := D1.trans (hb.mono l1)
  clear hb D1 l1
  refine hK _ _ ?_
  clear hK K
  refine wpList_step (fun K hK => ?_); go_simp; refine hK _ _ ?_; clear hK K
  refine wpList_step (fun K hK => ?_); go_simp; refine hK _ _ ?_; clear hK K
  refine wpList_nil ?_
  have l2 := D2.size
  go_upto_region 3 with fail
  refine wp_region_lit ?_
  refine wpList_step (fun K hK => ?_); go_simp; refine hK _ _ ?_; clear hK K
  refine wpList_step (fun K hK => ?_)
  go_simp
  refine (attempt_star ⟨w.heap.size, 0, none⟩ ⟨w.heap.size + 1, 0, none⟩ SP _ (fun w3 hb => by
    rw [← HSP.out]
    have hx := G0.out _ (D2.trans (hb.mono l2))
    exact starC_any a0 b0 c0 d0 a1 b1 c1 d1 a2 b2 c2 d2 a3 b3 c3 d3 e0 f0 g0 h0 e1 f1 g1 h1 e2 f2 g2 h2 e3 f3 g3 h3 _ _ w3 HBP.out HBQ.out hx.1 hx.2)).mono ?_
  obtain ⟨z0, z1, z2, z3, z4, z5, z6, z7, z8, z9, z10, z11, z12, z13, z14, z15, er, hE⟩ := OutO_form SP
  rw [hE]
  rintro e w4 ⟨rfl, hb⟩
  have D4 : Below W.heap.size W w4 := D2.trans (hb.mono l2)
  have HE := Lib.hid hE
  clear hb D2 l2 hE
  refine hK _ _ ?_
  clear hK K
  refine wpList_step (fun K hK => ?_); go_simp; refine hK _ _ ?_; clear hK K
  refine wpList_step (fun K hK => ?_); go_simp; refine hK _ _ ?_; clear hK K
  have HTH := Lib.hid (there_row (G1.out _ D4) 16 (Nat.le_refl _))
  have HDF := Lib.hid (HB0.out.trans (D4.mono (by omega)))
  refine wpList_store_mid rfl 49 (.tmp 4) (.tmp 17) rfl (w.heap.size + 1 + 1) 0 #[.int .i64 z0, .int .i64 z1, .int .i64 z2, .int .i64 z3, .int .i64 z4, .int .i64 z5, .int .i64 z6, .int .i64 z7, .int .i64 z8, .int .i64 z9, .int .i64 z10, .int .i64 z11, .int .i64 z12, .int .i64 z13, .int .i64 z14, .int .i64 z15] rfl rfl HTH.out (by kernel_rfl) (by simp [Value.oneCell']) ?_
  have hload : (w4.setCells (w.heap.size + 1 + 1) 0 [.int .i64 z0, .int .i64 z1, .int .i64 z2, .int .i64 z3, .int .i64 z4, .int .i64 z5, .int .i64 z6, .int .i64 z7, .int .i64 z8, .int .i64 z9, .int .i64 z10, .int .i64 z11, .int .i64 z12, .int .i64 z13, .int .i64 z14, .int .i64 z15]).rangeAt (w.heap.size + 1 + 1) 0 [.int .i64 z0, .int .i64 z1, .int .i64 z2, .int .i64 z3, .int .i64 z4, .int .i64 z5, .int .i64 z6, .int .i64 z7, .int .i64 z8, .int .i64 z9, .int .i64 z10, .int .i64 z11, .int .i64 z12, .int .i64 z13, .int .i64 z14, .int .i64 z15] := World.rangeAt_setCells_same w4 _ _ _ HTH.out
  have DZ : Below w.heap.size w (w4.setCells (w.heap.size + 1 + 1) 0 [.int .i64 z0, .int .i64 z1, .int .i64 z2, .int .i64 z3, .int .i64 z4, .int .i64 z5, .int .i64 z6, .int .i64 z7, .int .i64 z8, .int .i64 z9, .int .i64 z10, .int .i64 z11, .int .i64 z12, .int .i64 z13, .int .i64 z14, .int .i64 z15]) := below_mids (by omega) _ _ HDF.out
  (try rw [show (#[.int .i64 z0, .int .i64 z1, .int .i64 z2, .int .i64 z3, .int .i64 z4, .int .i64 z5, .int .i64 z6, .int .i64 z7, .int .i64 z8, .int .i64 z9, .int .i64 z10, .int .i64 z11, .int .i64 z12, .int .i64 z13, .int .i64 z14, .int .i64 z15] : Array Value).toList = [.int .i64 z0, .int .i64 z1, .int .i64 z2, .int .i64 z3, .int .i64 z4, .int .i64 z5, .int .i64 z6, .int .i64 z7, .int .i64 z8, .int .i64 z9, .int .i64 z10, .int .i64 z11, .int .i64 z12, .int .i64 z13, .int .i64 z14, .int .i64 z15] from rfl])
  generalize w4.setCells (w.heap.size + 1 + 1) 0 [.int .i64 z0, .int .i64 z1, .int .i64 z2, .int .i64 z3, .int .i64 z4, .int .i64 z5, .int .i64 z6, .int .i64 z7, .int .i64 z8, .int .i64 z9, .int .i64 z10, .int .i64 z11, .int .i64 z12, .int .i64 z13, .int .i64 z14, .int .i64 z15] = W3 at *
  have HL := Lib.hid hload
  clear hload HTH HDF G0 G1 HB0
  refine wpList_step (fun K hK => ?_); go_simp; refine hK _ _ ?_; clear hK K
  refine wpList_nil ?_
  go_wp2_with fail
  obtain ⟨q0, q1, q2, q3, q4, q5, q6, q7, q8, q9, q10, q11, q12, q13, q14, q15⟩ : (W3.cell? ⟨w.heap.size + 1 + 1, 0, none⟩ = some (.int .i64 z0) ∧ W3.cell? ⟨w.heap.size + 1 + 1, 1, none⟩ = some (.int .i64 z1) ∧ W3.cell? ⟨w.heap.size + 1 + 1, 2, none⟩ = some (.int .i64 z2) ∧ W3.cell? ⟨w.heap.size + 1 + 1, 3, none⟩ = some (.int .i64 z3) ∧ W3.cell? ⟨w.heap.size + 1 + 1, 4, none⟩ = some (.int .i64 z4) ∧ W3.cell? ⟨w.heap.size + 1 + 1, 5, none⟩ = some (.int .i64 z5) ∧ W3.cell? ⟨w.heap.size + 1 + 1, 6, none⟩ = some (.int .i64 z6) ∧ W3.cell? ⟨w.heap.size + 1 + 1, 7, none⟩ = some (.int .i64 z7) ∧ W3.cell? ⟨w.heap.size + 1 + 1, 8, none⟩ = some (.int .i64 z8) ∧ W3.cell? ⟨w.heap.size + 1 + 1, 9, none⟩ = some (.int .i64 z9) ∧ W3.cell? ⟨w.heap.size + 1 + 1, 10, none⟩ = some (.int .i64 z10) ∧ W3.cell? ⟨w.heap.size + 1 + 1, 11, none⟩ = some (.int .i64 z11) ∧ W3.cell? ⟨w.heap.size + 1 + 1, 12, none⟩ = some (.int .i64 z12) ∧ W3.cell? ⟨w.heap.size + 1 + 1, 13, none⟩ = some (.int .i64 z13) ∧ W3.cell? ⟨w.heap.size + 1 + 1, 14, none⟩ = some (.int .i64 z14) ∧ W3.cell? ⟨w.heap.size + 1 + 1, 15, none⟩ = some (.int .i64 z15)) := by
    have h := HL.out
    refine ⟨by have h1 := h 0 _ rfl; rwa [Nat.zero_add] at h1, by have h1 := h 1 _ rfl; rwa [Nat.zero_add] at h1, by have h1 := h 2 _ rfl; rwa [Nat.zero_add] at h1, by have h1 := h 3 _ rfl; rwa [Nat.zero_add] at h1, by have h1 := h 4 _ rfl; rwa [Nat.zero_add] at h1, by have h1 := h 5 _ rfl; rwa [Nat.zero_add] at h1, by have h1 := h 6 _ rfl; rwa [Nat.zero_add] at h1, by have h1 := h 7 _ rfl; rwa [Nat.zero_add] at h1, by have h1 := h 8 _ rfl; rwa [Nat.zero_add] at h1, by have h1 := h 9 _ rfl; rwa [Nat.zero_add] at h1, by have h1 := h 10 _ rfl; rwa [Nat.zero_add] at h1, by have h1 := h 11 _ rfl; rwa [Nat.zero_add] at h1, by have h1 := h 12 _ rfl; rwa [Nat.zero_add] at h1, by have h1 := h 13 _ rfl; rwa [Nat.zero_add] at h1, by have h1 := h 14 _ rfl; rwa [Nat.zero_add] at h1, by have h1 := h 15 _ rfl; rwa [Nat.zero_add] at h1⟩
  refine bodyPost_ret (v := .tuple #[.agg #[.int .i64 z0, .int .i64 z1, .int .i64 z2, .int .i64 z3, .int .i64 z4, .int .i64 z5, .int .i64 z6, .int .i64 z7, .int .i64 z8, .int .i64 z9, .int .i64 z10, .int .i64 z11, .int .i64 z12, .int .i64 z13, .int .i64 z14, .int .i64 z15], .int .i64 er]) (by simp [results, Try.results43, go_sem, q0, q1, q2, q3, q4, q5, q6, q7, q8, q9, q10, q11, q12, q13, q14, q15]) rfl ⟨HE.out.symm, DZ⟩
end Go.Proofs.Ytgbnpnenejgnnaa

namespace Go.Proofs.Ytgbnpnenejgnnaa
open Go.RowKit Encl
theorem eStar_any (a0 b0 c0 d0 a1 b1 c1 d1 a2 b2 c2 d2 a3 b3 c3 d3 e0 f0 g0 h0 e1 f1 g1 h1 e2 f2 g2 h2 e3 f3 g3 h3 : Int) (w : World) :
    Calls Try.prog 43 #[.agg #[.int .i64 a0, .int .i64 b0, .int .i64 c0, .int .i64 d0, .int .i64 a1, .int .i64 b1, .int .i64 c1, .int .i64 d1, .int .i64 a2, .int .i64 b2, .int .i64 c2, .int .i64 d2, .int .i64 a3, .int .i64 b3, .int .i64 c3, .int .i64 d3], .agg #[.int .i64 e0, .int .i64 f0, .int .i64 g0, .int .i64 h0, .int .i64 e1, .int .i64 f1, .int .i64 g1, .int .i64 h1, .int .i64 e2, .int .i64 f2, .int .i64 g2, .int .i64 h2, .int .i64 e3, .int .i64 f3, .int .i64 g3, .int .i64 h3]] w fun e w' => e = OutO (staO ⟨⟨⟨a0, b0⟩, ⟨c0, d0⟩⟩, ⟨⟨a1, b1⟩, ⟨c1, d1⟩⟩, ⟨⟨a2, b2⟩, ⟨c2, d2⟩⟩, ⟨⟨a3, b3⟩, ⟨c3, d3⟩⟩⟩ ⟨⟨⟨e0, f0⟩, ⟨g0, h0⟩⟩, ⟨⟨e1, f1⟩, ⟨g1, h1⟩⟩, ⟨⟨e2, f2⟩, ⟨g2, h2⟩⟩, ⟨⟨e3, f3⟩, ⟨g3, h3⟩⟩⟩) ∧ Below w.heap.size w w' := by
  cases hp : okP ⟨⟨a0, b0⟩, ⟨c0, d0⟩⟩ ⟨⟨a1, b1⟩, ⟨c1, d1⟩⟩ ⟨⟨a2, b2⟩, ⟨c2, d2⟩⟩ ⟨⟨a3, b3⟩, ⟨c3, d3⟩⟩ with
  | false =>
    rw [show staO ⟨⟨⟨a0, b0⟩, ⟨c0, d0⟩⟩, ⟨⟨a1, b1⟩, ⟨c1, d1⟩⟩, ⟨⟨a2, b2⟩, ⟨c2, d2⟩⟩, ⟨⟨a3, b3⟩, ⟨c3, d3⟩⟩⟩ ⟨⟨⟨e0, f0⟩, ⟨g0, h0⟩⟩, ⟨⟨e1, f1⟩, ⟨g1, h1⟩⟩, ⟨⟨e2, f2⟩, ⟨g2, h2⟩⟩, ⟨⟨e3, f3⟩, ⟨g3, h3⟩⟩⟩ = .bad 50 by unfold staO; exact if_neg (by rw [hp]; decide)]
    exact eStar_nop a0 b0 c0 d0 a1 b1 c1 d1 a2 b2 c2 d2 a3 b3 c3 d3 e0 f0 g0 h0 e1 f1 g1 h1 e2 f2 g2 h2 e3 f3 g3 h3 w hp
  | true =>
    cases hq : okP ⟨⟨e0, f0⟩, ⟨g0, h0⟩⟩ ⟨⟨e1, f1⟩, ⟨g1, h1⟩⟩ ⟨⟨e2, f2⟩, ⟨g2, h2⟩⟩ ⟨⟨e3, f3⟩, ⟨g3, h3⟩⟩ with
    | false =>
      rw [show staO ⟨⟨⟨a0, b0⟩, ⟨c0, d0⟩⟩, ⟨⟨a1, b1⟩, ⟨c1, d1⟩⟩, ⟨⟨a2, b2⟩, ⟨c2, d2⟩⟩, ⟨⟨a3, b3⟩, ⟨c3, d3⟩⟩⟩ ⟨⟨⟨e0, f0⟩, ⟨g0, h0⟩⟩, ⟨⟨e1, f1⟩, ⟨g1, h1⟩⟩, ⟨⟨e2, f2⟩, ⟨g2, h2⟩⟩, ⟨⟨e3, f3⟩, ⟨g3, h3⟩⟩⟩ = .bad 50 by unfold staO; rw [if_pos hp]; exact if_neg (by rw [hq]; decide)]
      exact eStar_noq a0 b0 c0 d0 a1 b1 c1 d1 a2 b2 c2 d2 a3 b3 c3 d3 e0 f0 g0 h0 e1 f1 g1 h1 e2 f2 g2 h2 e3 f3 g3 h3 w hp hq
    | true =>
      rw [show staO ⟨⟨⟨a0, b0⟩, ⟨c0, d0⟩⟩, ⟨⟨a1, b1⟩, ⟨c1, d1⟩⟩, ⟨⟨a2, b2⟩, ⟨c2, d2⟩⟩, ⟨⟨a3, b3⟩, ⟨c3, d3⟩⟩⟩ ⟨⟨⟨e0, f0⟩, ⟨g0, h0⟩⟩, ⟨⟨e1, f1⟩, ⟨g1, h1⟩⟩, ⟨⟨e2, f2⟩, ⟨g2, h2⟩⟩, ⟨⟨e3, f3⟩, ⟨g3, h3⟩⟩⟩ = starR ⟨⟨⟨a0, b0⟩, ⟨c0, d0⟩⟩, ⟨⟨a1, b1⟩, ⟨c1, d1⟩⟩, ⟨⟨a2, b2⟩, ⟨c2, d2⟩⟩, ⟨⟨a3, b3⟩, ⟨c3, d3⟩⟩⟩ ⟨⟨⟨e0, f0⟩, ⟨g0, h0⟩⟩, ⟨⟨e1, f1⟩, ⟨g1, h1⟩⟩, ⟨⟨e2, f2⟩, ⟨g2, h2⟩⟩, ⟨⟨e3, f3⟩, ⟨g3, h3⟩⟩⟩ by unfold staO; rw [if_pos hp]; exact if_pos hq]
      exact eStar_ok a0 b0 c0 d0 a1 b1 c1 d1 a2 b2 c2 d2 a3 b3 c3 d3 e0 f0 g0 h0 e1 f1 g1 h1 e2 f2 g2 h2 e3 f3 g3 h3 w hp hq
end Go.Proofs.Ytgbnpnenejgnnaa
