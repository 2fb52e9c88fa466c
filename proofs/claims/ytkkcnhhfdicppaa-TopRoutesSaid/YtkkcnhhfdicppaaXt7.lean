import Derived.Test.YtkkcnhhfdicppaaHa7
import Derived.Deep.LoopGhost
namespace Lay
/-- One more way looked at: a visit is added if it may be. -/
def Ext1 (op : Int → Int → Bool) (M B a b e v k : Int) (f : Nat → V) (n : Nat) (g : Nat → V) (m : Nat) : Prop :=
  (∀ i, i < n → ∃ j, j < m ∧ g j = f i) ∧
  (∀ j, j < m → (∃ i, i < n ∧ f i = g j) ∨ (op (nx a (opp k)) (ny b (opp k)) = true ∧ g j = ⟨nx a (opp k), ny b (opp k), k, v + M + bd B k e⟩)) ∧
  (op (nx a (opp k)) (ny b (opp k)) = true → ∃ j, j < m ∧ g j = ⟨nx a (opp k), ny b (opp k), k, v + M + bd B k e⟩)
theorem Ext1.no {op : Int → Int → Bool} {M B a b e v k : Int} {f : Nat → V} {n : Nat} (h : op (nx a (opp k)) (ny b (opp k)) = false) : Ext1 op M B a b e v k f n f n :=
  ⟨fun i hi => ⟨i, hi, rfl⟩, fun j hj => Or.inl ⟨j, hj, rfl⟩, fun hh => by rw [h] at hh; cases hh⟩
theorem Ext1.yes {op : Int → Int → Bool} {M B a b e v k : Int} {f g : Nat → V} {n : Nat} (h : op (nx a (opp k)) (ny b (opp k)) = true)
    (hm : ∀ x, (∃ i, i < n + 1 ∧ g i = x) ↔ (∃ i, i < n ∧ f i = x) ∨ x = ⟨nx a (opp k), ny b (opp k), k, v + M + bd B k e⟩) : Ext1 op M B a b e v k f n g (n + 1) :=
  ⟨fun i hi => (hm _).2 (Or.inl ⟨i, hi, rfl⟩), fun j hj => ((hm _).1 ⟨j, hj, rfl⟩).imp id (fun e => ⟨h, e⟩), fun _ => (hm _).2 (Or.inr rfl)⟩
theorem bd_le {B i o : Int} (h : 0 ≤ B) : 0 ≤ bd B i o ∧ bd B i o ≤ B := by unfold bd; split <;> omega
end Lay
namespace Go.Proofs.Ytkkcnhhfdicppaa
open Go.RowKit Lay
theorem QAt.lt {w : World} {S : Nat → Prop} {Q n : Nat} {f : Nat → V} (h : QAt w S Q n f) : Q < w.heap.size := by
  obtain ⟨g, cap, a, _⟩ := h
  exact QV.l a
/-- A new block is none of the queue's. -/
theorem QAt.sep {w w' : World} {S : Nat → Prop} {Q n b : Nat} {f : Nat → V} (h : QAt w S Q n f) (hb : Below w.heap.size w w') (hl : w.heap.size ≤ b) : QAt w' (fun k => S k ∧ k ≠ b) Q n f := by
  obtain ⟨g, cap, h1, h2, h3, h4⟩ := h
  have := h4.lt
  exact ⟨g, cap, (hb.block _ (QV.l h1)).trans h1, ⟨h2, by omega⟩, h3, h4.keep (hb.block _ h4.lt)⟩
set_option maxRecDepth 100000 in
set_option maxHeartbeats 8000000 in
theorem extend_any (P : Int → (Nat → V) → Nat → Prop) (S : Nat → Prop) (Q nq : Nat) (f : Nat → V) (W H M B vx vy vd vc : Int) (n cp m N : Nat) (ao : Option Addr) (K : Int → Int → Bool) (w : World)
    (hq : QAt w S Q nq f) (hh : Hp V.c f nq) (hm : BMap w m N K) (hmS : ¬ S m) (hmQ : m ≠ Q) (hS : ∀ k, w.heap.size ≤ k → S k) (hn : nq ≤ 900000) (hW : W ≤ 30) (hH : H ≤ 30) (hM : 0 ≤ M ∧ M ≤ 1000) (hB : 0 ≤ B ∧ B ≤ 1000) (hvx : 0 ≤ vx ∧ vx < 30) (hvy : 0 ≤ vy ∧ vy < 30) (hvc : 0 ≤ vc ∧ vc ≤ 1000000000)
    (h0 : P 0 f nq) (hs : ∀ k f n g m, 0 ≤ k → k < 4 → P k f n → Ext1 (opB W H K) M B vx vy vd vc k f n g m → P (k + 1) g m) :
    Calls Try.prog 77 #[bdV W H M B ao n cp m, .pointer (some ⟨Q, 0, none⟩), .agg #[.int .i64 vx, .int .i64 vy, .int .i64 vd, .int .i64 vc]] w fun e w' => e = .returned (.tuple #[]) ∧ Oth (fun k => k = Q ∨ S k) w w' ∧ ∃ f' n', n' ≤ nq + 4 ∧ QAt w' S Q n' f' ∧ Hp V.c f' n' ∧ P 4 f' n' := by
  have HQ0 := Lib.hid hq
  have HH0 := Lib.hid hh
  have HM0 := Lib.hid hm
  have HS := Lib.hid hS
  have HP0 := Lib.hid h0
  have HP := Lib.hid hs
  have HSm := Lib.hid hmS
  have hml := hm.lt
  have hql := hq.lt
  clear hq hh hm hS h0 hs hmS
  go_enter Try.func77, Try.ntmps77
  go_wp2_with fail
  obtain ⟨b3, hb3⟩ : ∃ b, b = w.heap.size := ⟨_, rfl⟩
  obtain ⟨b5, hb5⟩ : ∃ b, b = w.heap.size + 1 := ⟨_, rfl⟩
  have h35 : b3 < b5 := by omega
  have HK3 : Hid (((w.alloc (.cells #[.int .i64 W, .int .i64 H, .int .i64 M, .int .i64 B, .slice ao n cp, .map (some m)] 68)).alloc (.cells #[.int .i64 vx, .int .i64 vy, .int .i64 vd, .int .i64 vc] 124)).heap[b3]? = some (.cells #[.int .i64 W, .int .i64 H, .int .i64 M, .int .i64 B, .slice ao n cp, .map (some m)] 68 (0, 0))) := Lib.hid (by rw [hb3]; exact (Below.heap_alloc _ _ _ (by simp)).trans (heap_alloc_new w _))
  have HK5 : Hid (((w.alloc (.cells #[.int .i64 W, .int .i64 H, .int .i64 M, .int .i64 B, .slice ao n cp, .map (some m)] 68)).alloc (.cells #[.int .i64 vx, .int .i64 vy, .int .i64 vd, .int .i64 vc] 124)).heap[b5]? = some (.cells #[.int .i64 vx, .int .i64 vy, .int .i64 vd, .int .i64 vc] 124 (0, 0))) := Lib.hid (by rw [hb5]; have h := heap_alloc_new (w.alloc (.cells #[.int .i64 W, .int .i64 H, .int .i64 M, .int .i64 B, .slice ao n cp, .map (some m)] 68)) (.cells #[.int .i64 vx, .int .i64 vy, .int .i64 vd, .int .i64 vc] 124); rwa [World.size_alloc] at h)
  have hz : ((w.alloc (.cells #[.int .i64 W, .int .i64 H, .int .i64 M, .int .i64 B, .slice ao n cp, .map (some m)] 68)).alloc (.cells #[.int .i64 vx, .int .i64 vy, .int .i64 vd, .int .i64 vc] 124)).heap.size = b5 + 1 := by simp; omega
  have HB0 : Hid (Below w.heap.size w ((w.alloc (.cells #[.int .i64 W, .int .i64 H, .int .i64 M, .int .i64 B, .slice ao n cp, .map (some m)] 68)).alloc (.cells #[.int .i64 vx, .int .i64 vy, .int .i64 vd, .int .i64 vc] 124))) := Lib.hid (bal (bal (Below.refl _ _) _) _)
  have HQ1 : Hid (QAt ((w.alloc (.cells #[.int .i64 W, .int .i64 H, .int .i64 M, .int .i64 B, .slice ao n cp, .map (some m)] 68)).alloc (.cells #[.int .i64 vx, .int .i64 vy, .int .i64 vd, .int .i64 vc] 124)) (fun k => S k ∧ k ≠ b3 ∧ k ≠ b5) Q nq f) := Lib.hid (by
    have q1 := HQ0.out.sep (b := b3) HB0.out (by omega)
    obtain ⟨g, cap, a1, a2, a3, a4⟩ := HQ0.out
    have := a4.lt
    exact ⟨g, cap, (HB0.out.block _ (QV.l a1)).trans a1, ⟨a2, by omega, by omega⟩, a3, a4.keep (HB0.out.block _ a4.lt)⟩)
  have HM1 : Hid (BMap ((w.alloc (.cells #[.int .i64 W, .int .i64 H, .int .i64 M, .int .i64 B, .slice ao n cp, .map (some m)] 68)).alloc (.cells #[.int .i64 vx, .int .i64 vy, .int .i64 vd, .int .i64 vc] 124)) m N K) := Lib.hid (HM0.out.keep (HB0.out.block _ hml))
  have HO1 : Hid (Oth (fun k => k = Q ∨ S k) w ((w.alloc (.cells #[.int .i64 W, .int .i64 H, .int .i64 M, .int .i64 B, .slice ao n cp, .map (some m)] 68)).alloc (.cells #[.int .i64 vx, .int .i64 vy, .int .i64 vd, .int .i64 vc] 124))) := Lib.hid (Oth.of_below HB0.out)
  have hqb : Q < b3 := by omega
  have hmb : m < b3 := by omega
  have HS3 : Hid (∀ k, b3 ≤ k → S k) := Lib.hid (fun k hk => HS.out k (by omega))
  rw [← hb5, ← hb3]
  clear HQ0 HM0 HB0 HS hb3 hb5
  generalize ((w.alloc (.cells #[.int .i64 W, .int .i64 H, .int .i64 M, .int .i64 B, .slice ao n cp, .map (some m)] 68)).alloc (.cells #[.int .i64 vx, .int .i64 vy, .int .i64 vd, .int .i64 vc] 124)) = wz at *
  go_loopg [8] 4 (fun gg kv wr => ∃ (k : Nat) (f' : Nat → V) (n' : Nat), kv = .int .i64 k ∧ Hid (gg = 4 - k) ∧ k ≤ 4 ∧ n' ≤ nq + k ∧ Hid (QAt wr (fun k => S k ∧ k ≠ b3 ∧ k ≠ b5) Q n' f') ∧ Hid (Hp V.c f' n') ∧ Hid (P k f' n') ∧ Hid (BMap wr m N K) ∧ Hid (wr.heap[b3]? = some (.cells #[.int .i64 W, .int .i64 H, .int .i64 M, .int .i64 B, .slice ao n cp, .map (some m)] 68 (0, 0))) ∧ Hid (wr.heap[b5]? = some (.cells #[.int .i64 vx, .int .i64 vy, .int .i64 vd, .int .i64 vc] 124 (0, 0))) ∧ Hid (Oth (fun k => k = Q ∨ S k) w wr) ∧ b5 < wr.heap.size)
  case atStart => exact ⟨0, f, nq, rfl, Lib.hid (by omega), by omega, by omega, HQ1, HH0, HP0, HM1, HK3, HK5, HO1, by omega⟩
  case round =>
    obtain ⟨k, f', n', rfl, HGG, hk4, hn', HQ, HH, HPk, HM, HK3', HK5', HO, hsz⟩ := hrel
    clear HQ1 HH0 HP0 HM1 HK3 HK5 HO1 hz
    by_cases hlt : k < 4
    case neg =>
      obtain rfl : k = 4 := by omega
      go_wp2_with fail
      go_end0
      exact ⟨rfl, HO.out, f', n', hn', HQ.out.more (fun _ h => h.1), HH.out, HPk.out⟩
    obtain ⟨px, hpx⟩ : ∃ px, nx vx (((k : Int) + 2) % 4) = px := ⟨_, rfl⟩
    obtain ⟨py, hpy⟩ : ∃ py, ny vy (((k : Int) + 2) % 4) = py := ⟨_, rfl⟩
    have HPX := Lib.hid hpx
    have HPY := Lib.hid hpy
    clear hpx hpy
    go_upto_region 4 with fail
    go_cut [7] (fun v7 wx => ∃ b7, v7 = .pointer (some ⟨b7, 0, none⟩) ∧ wx.heap[b7]? = some (.cells #[.int .i64 px, .int .i64 py] 26 (0, 0)) ∧ Below wr.heap.size wr wx ∧ wr.heap.size ≤ b7)
    case first =>
      have G0 : Hid (∀ w' : World, Below wr.heap.size wr w' → w'.heap[b5]? = some (.cells #[.int .i64 vx, .int .i64 vy, .int .i64 vd, .int .i64 vc] 124 (0, 0))) := Lib.hid (fun w' hb => (hb.block _ hsz).trans HK5'.out)
      have HE0 : Below wr.heap.size wr wr.drew := (Below.refl _ _).drew
      refine wp_region_held_drew (S := fun w' => w'.heap[b5]? = some (.cells #[.int .i64 vx, .int .i64 vy, .int .i64 vd, .int .i64 vc] 124 (0, 0))) (by kernel_rfl) (G0.out _ HE0) (fun hHeld => ?_)
      refine wpAnyH_take (i := 0) (oi := _) (v := ?_) rfl (by kernel_rfl) (by kernel_rfl) (by kernel_rfl) (fun _ _ _ h => h) (Or.inl ⟨by rfl, ?_⟩) (by assumption) ?_
      rotate_left
      · intro w hSw; go_simp; (try with_reducible rfl)
      try change wpAnyH _ _ _ _ _ _ _ (Act.put _ (some 11) _) _
      try simp only [act_all]
      refine wpAnyH_take (i := 1) (oi := _) (v := ?_) rfl (by kernel_rfl) (by kernel_rfl) (by kernel_rfl) (fun _ _ _ h => h) (Or.inl ⟨by rfl, ?_⟩) (by assumption) ?_
      rotate_left
      · intro w hSw; go_simp; (try with_reducible rfl)
      try change wpAnyH _ _ _ _ _ _ _ (Act.put _ (some 12) _) _
      try simp only [act_all]
      refine wpAnyH_take (i := 2) (oi := _) (v := _) rfl (by kernel_rfl) (by kernel_rfl) (by kernel_rfl) (fun _ _ _ h => h) (yieldsIf_load_mid (by rfl) 26 _ rfl b5 0 rfl ([.int .i64 vx, .int .i64 vy]) _ (fun w' hh => range_row hh 0 [.int .i64 vx, .int .i64 vy] (fun j hj => by rcases j with _ | _ | j <;> first | rfl | (exfalso; simp at hj; done) | (exfalso; simp at hj; omega))) Try.underlying26 rfl (by kernel_rfl)) (by assumption) ?_
      try change wpAnyH _ _ _ _ _ _ _ (Act.put _ (some 13) _) _
      try simp only [act_all]
      refine wpAnyH_take (i := 3) (oi := _) (v := ?_) rfl (by kernel_rfl) (by kernel_rfl) (by kernel_rfl) (fun _ _ _ h => h) (Or.inl ⟨by rfl, ?_⟩) (by assumption) ?_
      rotate_left
      · intro w hSw; go_simp; (try with_reducible rfl)
      try change wpAnyH _ _ _ _ _ _ _ (Act.put _ (some 14) _) _
      try simp only [act_all]
      refine wpAnyH_ready (rs := [4, 6]) (by kernel_rfl) (by simp) ?_
      refine AllReadyH.cons (o := _) rfl (fun K hK => ?_) ?_
      ·
        go_simp
        refine (turnedBy_any k 2 _ (by omega) (by omega) (by omega) (by omega)).mono ?_
        rintro e_ t1 ⟨rfl, hb⟩
        have HE1 : Below wr.heap.size wr t1 := HE0.trans (hb.mono HE0.size)
        clear hb hHeld
        refine hK.out _ _ (G0.out _ HE1) (fun hHeld => ?_)
        clear hK K
        try simp only [act_all]
        refine wpAnyH_ready (rs := [5, 6]) (by kernel_rfl) (by simp) ?_
        refine AllReadyH.cons (o := _) rfl (fun K hK => ?_) ?_
        ·
          go_simp
          refine (beside_any vx vy ((k + 2) % 4) _ (by omega) (by omega) (by omega) (by omega)).mono ?_
          rw [HPX.out, HPY.out]
          rintro e_ t2 ⟨rfl, hb⟩
          have HE2 : Below wr.heap.size wr t2 := HE1.trans (hb.mono HE1.size)
          clear hb hHeld
          refine hK.out _ _ (G0.out _ HE2) (fun hHeld => ?_)
          clear hK K
          try simp only [act_all]
          refine wpAnyH_ready (rs := [6]) (by kernel_rfl) (by simp) ?_
          refine AllReadyH.cons (o := _) rfl (fun K hK => ?_) AllReadyH.nil
          have HE3 : Below wr.heap.size wr (t2.alloc (Obj.cells #[.int .i64 0, .int .i64 0] 26)) := bal HE2 _
          have la3 : wr.heap.size ≤ t2.heap.size := HE2.size
          go_simp
          refine hK.out _ _ (G0.out _ HE3) (fun hHeld => ?_)
          clear hK K
          try simp only [act_all]
          refine wpAnyH_ready (rs := [7]) (by kernel_rfl) (by simp) ?_
          refine AllReadyH.cons (o := _) rfl (fun K hK => ?_) AllReadyH.nil
          have kx4 : (t2.alloc (Obj.cells #[.int .i64 0, .int .i64 0] 26)).heap[t2.heap.size]? = some (.cells #[.int .i64 0, .int .i64 0] 26 (0, 0)) := (heap_alloc_new t2 _)
          have HTH := Lib.hid (there_mid kx4 0 2 (show 0 + 2 ≤ 2 by decide))
          have HE4 : Below wr.heap.size wr ((t2.alloc (Obj.cells #[.int .i64 0, .int .i64 0] 26)).setCells (t2.heap.size) 0 [.int .i64 px, .int .i64 py]) := below_mids la3 _ _ HE3
          have kz4 : ((t2.alloc (Obj.cells #[.int .i64 0, .int .i64 0] 26)).setCells (t2.heap.size) 0 [.int .i64 px, .int .i64 py]).heap[t2.heap.size]? = some (.cells #[.int .i64 px, .int .i64 py] 26 (0, 0)) := block_whole [.int .i64 px, .int .i64 py] kx4 rfl
          rw [if_pos (show Region.wanted _ _ = true from rfl)]
          refine wp_store_mid 26 (.tmp 7) (.tmp 16) rfl (t2.heap.size) 0 #[.int .i64 px, .int .i64 py] rfl rfl HTH.out (by kernel_rfl) (by simp [Value.oneCell']) ?_
          (try rw [show (#[.int .i64 px, .int .i64 py] : Array Value).toList = [.int .i64 px, .int .i64 py] from rfl])
          refine hK.out _ _ (G0.out _ HE4) (fun hHeld => ?_)
          clear hK K
          try simp only [act_all]
          refine wpAnyH_done (by kernel_rfl) ?_ _
          go_wp2_with fail
          go_meet
          exact ⟨_, rfl, kz4, HE4, la3⟩
        refine AllReadyH.cons (o := _) rfl (fun K hK => ?_) AllReadyH.nil
        have HE5 : Below wr.heap.size wr (t1.alloc (Obj.cells #[.int .i64 0, .int .i64 0] 26)) := bal HE1 _
        have la5 : wr.heap.size ≤ t1.heap.size := HE1.size
        go_simp
        refine hK.out _ _ (G0.out _ HE5) (fun hHeld => ?_)
        clear hK K
        try simp only [act_all]
        refine wpAnyH_ready (rs := [5]) (by kernel_rfl) (by simp) ?_
        refine AllReadyH.cons (o := _) rfl (fun K hK => ?_) AllReadyH.nil
        go_simp
        refine (beside_any vx vy ((k + 2) % 4) _ (by omega) (by omega) (by omega) (by omega)).mono ?_
        rw [HPX.out, HPY.out]
        rintro e_ t6 ⟨rfl, hb⟩
        have HE6 : Below wr.heap.size wr t6 := HE5.trans (hb.mono HE5.size)
        have kx6 : t6.heap[t1.heap.size]? = some (.cells #[.int .i64 0, .int .i64 0] 26 (0, 0)) := (hb.block _ (by first | omega | (simp; done) | (simp; omega))).trans (heap_alloc_new t1 _)
        have lx6 : t1.heap.size < t6.heap.size := (Array.getElem?_eq_some_iff.1 kx6).1
        clear hb hHeld
        refine hK.out _ _ (G0.out _ HE6) (fun hHeld => ?_)
        clear hK K
        try simp only [act_all]
        refine wpAnyH_ready (rs := [7]) (by kernel_rfl) (by simp) ?_
        refine AllReadyH.cons (o := _) rfl (fun K hK => ?_) AllReadyH.nil
        have kx7 : t6.heap[t1.heap.size]? = some (.cells #[.int .i64 0, .int .i64 0] 26 (0, 0)) := kx6
        have HTH := Lib.hid (there_mid kx7 0 2 (show 0 + 2 ≤ 2 by decide))
        have HE7 : Below wr.heap.size wr (t6.setCells (t1.heap.size) 0 [.int .i64 px, .int .i64 py]) := below_mids la5 _ _ HE6
        have kz7 : (t6.setCells (t1.heap.size) 0 [.int .i64 px, .int .i64 py]).heap[t1.heap.size]? = some (.cells #[.int .i64 px, .int .i64 py] 26 (0, 0)) := block_whole [.int .i64 px, .int .i64 py] kx7 rfl
        rw [if_pos (show Region.wanted _ _ = true from rfl)]
        refine wp_store_mid 26 (.tmp 7) (.tmp 16) rfl (t1.heap.size) 0 #[.int .i64 px, .int .i64 py] rfl rfl HTH.out (by kernel_rfl) (by simp [Value.oneCell']) ?_
        (try rw [show (#[.int .i64 px, .int .i64 py] : Array Value).toList = [.int .i64 px, .int .i64 py] from rfl])
        refine hK.out _ _ (G0.out _ HE7) (fun hHeld => ?_)
        clear hK K
        try simp only [act_all]
        refine wpAnyH_done (by kernel_rfl) ?_ _
        go_wp2_with fail
        go_meet
        exact ⟨_, rfl, kz7, HE7, la5⟩
      refine AllReadyH.cons (o := _) rfl (fun K hK => ?_) AllReadyH.nil
      have HE8 : Below wr.heap.size wr (wr.drew.alloc (Obj.cells #[.int .i64 0, .int .i64 0] 26)) := bal HE0 _
      have la8 : wr.heap.size ≤ wr.heap.size := HE0.size
      go_simp
      refine hK.out _ _ (G0.out _ HE8) (fun hHeld => ?_)
      clear hK K
      try simp only [act_all]
      refine wpAnyH_ready (rs := [4]) (by kernel_rfl) (by simp) ?_
      refine AllReadyH.cons (o := _) rfl (fun K hK => ?_) AllReadyH.nil
      go_simp
      refine (turnedBy_any k 2 _ (by omega) (by omega) (by omega) (by omega)).mono ?_
      rintro e_ t9 ⟨rfl, hb⟩
      have HE9 : Below wr.heap.size wr t9 := HE8.trans (hb.mono HE8.size)
      have kx9 : t9.heap[wr.heap.size]? = some (.cells #[.int .i64 0, .int .i64 0] 26 (0, 0)) := (hb.block _ (by first | omega | (simp; done) | (simp; omega))).trans (heap_alloc_new wr.drew _)
      have lx9 : wr.heap.size < t9.heap.size := (Array.getElem?_eq_some_iff.1 kx9).1
      clear hb hHeld
      refine hK.out _ _ (G0.out _ HE9) (fun hHeld => ?_)
      clear hK K
      try simp only [act_all]
      refine wpAnyH_ready (rs := [5]) (by kernel_rfl) (by simp) ?_
      refine AllReadyH.cons (o := _) rfl (fun K hK => ?_) AllReadyH.nil
      go_simp
      refine (beside_any vx vy ((k + 2) % 4) _ (by omega) (by omega) (by omega) (by omega)).mono ?_
      rw [HPX.out, HPY.out]
      rintro e_ t10 ⟨rfl, hb⟩
      have HE10 : Below wr.heap.size wr t10 := HE9.trans (hb.mono HE9.size)
      have kx10 : t10.heap[wr.heap.size]? = some (.cells #[.int .i64 0, .int .i64 0] 26 (0, 0)) := (hb.block _ (by first | omega | (simp; done) | (simp; omega))).trans kx9
      have lx10 : wr.heap.size < t10.heap.size := (Array.getElem?_eq_some_iff.1 kx10).1
      clear hb hHeld
      refine hK.out _ _ (G0.out _ HE10) (fun hHeld => ?_)
      clear hK K
      try simp only [act_all]
      refine wpAnyH_ready (rs := [7]) (by kernel_rfl) (by simp) ?_
      refine AllReadyH.cons (o := _) rfl (fun K hK => ?_) AllReadyH.nil
      have kx11 : t10.heap[wr.heap.size]? = some (.cells #[.int .i64 0, .int .i64 0] 26 (0, 0)) := kx10
      have HTH := Lib.hid (there_mid kx11 0 2 (show 0 + 2 ≤ 2 by decide))
      have HE11 : Below wr.heap.size wr (t10.setCells (wr.heap.size) 0 [.int .i64 px, .int .i64 py]) := below_mids la8 _ _ HE10
      have kz11 : (t10.setCells (wr.heap.size) 0 [.int .i64 px, .int .i64 py]).heap[wr.heap.size]? = some (.cells #[.int .i64 px, .int .i64 py] 26 (0, 0)) := block_whole [.int .i64 px, .int .i64 py] kx11 rfl
      rw [if_pos (show Region.wanted _ _ = true from rfl)]
      refine wp_store_mid 26 (.tmp 7) (.tmp 16) rfl (wr.heap.size) 0 #[.int .i64 px, .int .i64 py] rfl rfl HTH.out (by kernel_rfl) (by simp [Value.oneCell']) ?_
      (try rw [show (#[.int .i64 px, .int .i64 py] : Array Value).toList = [.int .i64 px, .int .i64 py] from rfl])
      refine hK.out _ _ (G0.out _ HE11) (fun hHeld => ?_)
      clear hK K
      try simp only [act_all]
      refine wpAnyH_done (by kernel_rfl) ?_ _
      go_wp2_with fail
      go_meet
      exact ⟨_, rfl, kz11, HE11, la8⟩
    case rest =>
    obtain ⟨b7, rfl, hK7, hB7, hl7⟩ := hcut
    have l7 : b7 < wc.heap.size := (Array.getElem?_eq_some_iff.1 hK7).1
    have KM := Lib.hid (HM.out.keep (hB7.block _ HM.out.lt))
    have K3 : Hid (wc.heap[b3]? = some (.cells #[.int .i64 W, .int .i64 H, .int .i64 M, .int .i64 B, .slice ao n cp, .map (some m)] 68 (0, 0))) := Lib.hid ((hB7.block _ (by omega)).trans HK3'.out)
    have K5 : Hid (wc.heap[b5]? = some (.cells #[.int .i64 vx, .int .i64 vy, .int .i64 vd, .int .i64 vc] 124 (0, 0))) := Lib.hid ((hB7.block _ hsz).trans HK5'.out)
    have KQ := Lib.hid (HQ.out.sep (b := b7) hB7 hl7)
    have KO : Hid (Oth (fun k => k = Q ∨ S k) w wc) := Lib.hid (HO.out.trans (Oth.of_below hB7))
    have K7 := Lib.hid hK7
    have hzc : b5 < wc.heap.size := Nat.lt_of_lt_of_le hsz hB7.size
    have hl75 : b5 < b7 := by omega
    clear hK7 hB7 HM HK3' HK5' HQ HO hl7
    obtain ⟨C, hC⟩ : ∃ z, z = wc := ⟨wc, rfl⟩
    subst hC
    obtain ⟨x0, x1⟩ : C.cell? ⟨b7, 0, none⟩ = some (.int .i64 px) ∧ C.cell? ⟨b7, 1, none⟩ = some (.int .i64 py) := ⟨cell_of_blk K7.out rfl, cell_of_blk K7.out rfl⟩
    obtain ⟨d0, d1, d2, d3, d4, d5⟩ : C.cell? ⟨b3, 0, none⟩ = some (.int .i64 W) ∧ C.cell? ⟨b3, 1, none⟩ = some (.int .i64 H) ∧ C.cell? ⟨b3, 2, none⟩ = some (.int .i64 M) ∧ C.cell? ⟨b3, 3, none⟩ = some (.int .i64 B) ∧ C.cell? ⟨b3, 4, none⟩ = some (.slice ao n cp) ∧ C.cell? ⟨b3, 5, none⟩ = some (.map (some m)) := ⟨cell_of_blk K3.out rfl, cell_of_blk K3.out rfl, cell_of_blk K3.out rfl, cell_of_blk K3.out rfl, cell_of_blk K3.out rfl, cell_of_blk K3.out rfl⟩
    go_wp2_with fail
    refine (has_any W H M B px py n cp m N ao K _ hW hH KM.out).mono ?_
    by_cases hop : opB W H K px py = true
    case neg =>
      have hop' : opB W H K px py = false := by simpa using hop
      rw [hop']
      rintro e w1 ⟨rfl, hb⟩
      have KM' := Lib.hid (KM.out.keep (hb.block _ KM.out.lt))
      have K3' : Hid (w1.heap[b3]? = some (.cells #[.int .i64 W, .int .i64 H, .int .i64 M, .int .i64 B, .slice ao n cp, .map (some m)] 68 (0, 0))) := Lib.hid ((hb.block _ (by omega)).trans K3.out)
      have K5' : Hid (w1.heap[b5]? = some (.cells #[.int .i64 vx, .int .i64 vy, .int .i64 vd, .int .i64 vc] 124 (0, 0))) := Lib.hid ((hb.block _ hzc).trans K5.out)
      have KQ' : Hid (QAt w1 (fun k => S k ∧ k ≠ b3 ∧ k ≠ b5) Q n' f') := Lib.hid ((KQ.out.sep (b := C.heap.size) hb (Nat.le_refl _)).more (fun _ h => h.1.1))
      have KO' : Hid (Oth (fun k => k = Q ∨ S k) w w1) := Lib.hid (KO.out.trans (Oth.of_below hb))
      have hz1 : b5 < w1.heap.size := Nat.lt_of_lt_of_le hzc hb.size
      have HPn : Hid (P ((k : Int) + 1) f' n') := Lib.hid (HP.out k f' n' f' n' (by omega) (by omega) HPk.out (Ext1.no (by unfold opp; rw [HPX.out, HPY.out]; exact hop')))
      clear hb KM K3 K5 KQ KO x0 x1 d0 d1 d2 d3 d4 d5 K7 HPk
      go_wp2_with fail
      go_roundg (4 - (k + 1))
      case rel => exact ⟨k + 1, f', n', by go_num, Lib.hid (by omega), by omega, by omega, KQ', HH, by push_cast; exact HPn, KM', K3', K5', KO', hz1⟩
      case measure => have := HGG.out; omega
    rw [hop]
    rintro e w1 ⟨rfl, hb⟩
    have KM' := Lib.hid (KM.out.keep (hb.block _ KM.out.lt))
    have K3' : Hid (w1.heap[b3]? = some (.cells #[.int .i64 W, .int .i64 H, .int .i64 M, .int .i64 B, .slice ao n cp, .map (some m)] 68 (0, 0))) := Lib.hid ((hb.block _ (by omega)).trans K3.out)
    have K5' : Hid (w1.heap[b5]? = some (.cells #[.int .i64 vx, .int .i64 vy, .int .i64 vd, .int .i64 vc] 124 (0, 0))) := Lib.hid ((hb.block _ hzc).trans K5.out)
    have K7' : Hid (w1.heap[b7]? = some (.cells #[.int .i64 px, .int .i64 py] 26 (0, 0))) := Lib.hid ((hb.block _ l7).trans K7.out)
    have KQ' : Hid (QAt w1 (fun k => (S k ∧ k ≠ b3 ∧ k ≠ b5) ∧ k ≠ b7) Q n' f') := Lib.hid ((KQ.out.sep (b := C.heap.size) hb (Nat.le_refl _)).more (fun _ h => h.1))
    have KO' : Hid (Oth (fun k => k = Q ∨ S k) w w1) := Lib.hid (KO.out.trans (Oth.of_below hb))
    have hz1 : b5 < w1.heap.size := Nat.lt_of_lt_of_le hzc hb.size
    have l71 : b7 < w1.heap.size := Nat.lt_of_lt_of_le l7 hb.size
    clear hb KM K3 K5 KQ KO x0 x1 d0 d1 d2 d3 d4 d5 K7 l7 hzc
    have hbd := bd_le (B := B) (i := k) (o := vd) hB.1
    obtain ⟨bv, hbv⟩ : ∃ bv, bd B k vd = bv := ⟨_, rfl⟩
    rw [hbv] at hbd
    have HBV := Lib.hid hbv
    clear hbv
    have WR1 : Hid (IntKind.i64.wrap (vc + M) = vc + M) := Lib.hid (by rw [IntKind.wrap_i64]; omega)
    have WR2 : Hid (IntKind.i64.wrap (vc + M + bv) = vc + M + bv) := Lib.hid (by rw [IntKind.wrap_i64]; omega)
    go_upto_region 6 with fail
    have G1 : Hid (∀ w' : World, w'.heap[b3]? = w1.heap[b3]? → w'.heap[b5]? = w1.heap[b5]? → w'.heap[b7]? = w1.heap[b7]? → w'.heap[b3]? = some (.cells #[.int .i64 W, .int .i64 H, .int .i64 M, .int .i64 B, .slice ao n cp, .map (some m)] 68 (0, 0)) ∧ w'.heap[b5]? = some (.cells #[.int .i64 vx, .int .i64 vy, .int .i64 vd, .int .i64 vc] 124 (0, 0)) ∧ w'.heap[b7]? = some (.cells #[.int .i64 px, .int .i64 py] 26 (0, 0)) ∧ w'.cell? ⟨b5, 3, none⟩ = some (.int .i64 vc) ∧ w'.cell? ⟨b5, 2, none⟩ = some (.int .i64 vd) ∧ w'.cell? ⟨b3, 2, none⟩ = some (.int .i64 M)) := Lib.hid (fun w' q3 q5 q7 => ⟨q3.trans K3'.out, q5.trans K5'.out, q7.trans K7'.out, cell_of_blk (q5.trans K5'.out) rfl, cell_of_blk (q5.trans K5'.out) rfl, cell_of_blk (q3.trans K3'.out) rfl⟩)
    have l31 : b3 < w1.heap.size := by omega
    refine wp_region_held_drew (S := fun w' => w'.heap[b3]? = some (.cells #[.int .i64 W, .int .i64 H, .int .i64 M, .int .i64 B, .slice ao n cp, .map (some m)] 68 (0, 0)) ∧ w'.heap[b5]? = some (.cells #[.int .i64 vx, .int .i64 vy, .int .i64 vd, .int .i64 vc] 124 (0, 0)) ∧ w'.heap[b7]? = some (.cells #[.int .i64 px, .int .i64 py] 26 (0, 0)) ∧ w'.cell? ⟨b5, 3, none⟩ = some (.int .i64 vc) ∧ w'.cell? ⟨b5, 2, none⟩ = some (.int .i64 vd) ∧ w'.cell? ⟨b3, 2, none⟩ = some (.int .i64 M)) (by kernel_rfl) (G1.out w1.drew rfl rfl rfl) (fun hHeld => ?_)
    refine wpAnyH_take (i := 0) (oi := _) (v := ?_) rfl (by kernel_rfl) (by kernel_rfl) (by kernel_rfl) (fun _ _ _ h => h) (Or.inl ⟨by rfl, ?_⟩) (by assumption) ?_
    rotate_left
    · intro w hSw; obtain ⟨s0, s1, s2, s3, s4, s5⟩ := hSw; go_simp; (try with_reducible rfl)
    try change wpAnyH _ _ _ _ _ _ _ (Act.put _ (some 20) _) _
    try simp only [act_all]
    refine wpAnyH_take (i := 1) (oi := _) (v := ?_) rfl (by kernel_rfl) (by kernel_rfl) (by kernel_rfl) (fun _ _ _ h => h) (Or.inl ⟨by rfl, ?_⟩) (by assumption) ?_
    rotate_left
    · intro w hSw; obtain ⟨s0, s1, s2, s3, s4, s5⟩ := hSw; go_simp; (try with_reducible rfl)
    try change wpAnyH _ _ _ _ _ _ _ (Act.put _ (some 21) _) _
    try simp only [act_all]
    refine wpAnyH_take (i := 2) (oi := _) (v := _) rfl (by kernel_rfl) (by kernel_rfl) (by kernel_rfl) (fun _ _ _ h => h) (yieldsIf_load_mid (by rfl) 26 _ rfl b7 0 rfl ([.int .i64 px, .int .i64 py]) _ (fun w' hh => range_row hh.2.2.1 0 [.int .i64 px, .int .i64 py] (fun j hj => by simp only [Nat.zero_add, List.getElem?_toArray])) Try.underlying26 rfl (by kernel_rfl)) (by assumption) ?_
    try change wpAnyH _ _ _ _ _ _ _ (Act.put _ (some 22) _) _
    try simp only [act_all]
    refine wpAnyH_take (i := 3) (oi := _) (v := ?_) rfl (by kernel_rfl) (by kernel_rfl) (by kernel_rfl) (fun _ _ _ h => h) (Or.inl ⟨by rfl, ?_⟩) (by assumption) ?_
    rotate_left
    · intro w hSw; obtain ⟨s0, s1, s2, s3, s4, s5⟩ := hSw; go_simp; (try with_reducible rfl)
    try change wpAnyH _ _ _ _ _ _ _ (Act.put _ (some 23) _) _
    try simp only [act_all]
    refine wpAnyH_take (i := 4) (oi := _) (v := ?_) rfl (by kernel_rfl) (by kernel_rfl) (by kernel_rfl) (fun _ _ _ h => h) (Or.inl ⟨by rfl, ?_⟩) (by assumption) ?_
    rotate_left
    · intro w hSw; obtain ⟨s0, s1, s2, s3, s4, s5⟩ := hSw; go_simp; (try with_reducible rfl)
    try change wpAnyH _ _ _ _ _ _ _ (Act.put _ (some 24) _) _
    try simp only [act_all]
    refine wpAnyH_take (i := 5) (oi := _) (v := ?_) rfl (by kernel_rfl) (by kernel_rfl) (by kernel_rfl) (fun _ _ _ h => h) (Or.inl ⟨by rfl, ?_⟩) (by assumption) ?_
    rotate_left
    · intro w hSw; obtain ⟨s0, s1, s2, s3, s4, s5⟩ := hSw; go_simp; (try with_reducible rfl)
    try change wpAnyH _ _ _ _ _ _ _ (Act.put _ (some 25) _) _
    try simp only [act_all]
    refine wpAnyH_take (i := 6) (oi := _) (v := ?_) rfl (by kernel_rfl) (by kernel_rfl) (by kernel_rfl) (fun _ _ _ h => h) (Or.inl ⟨by rfl, ?_⟩) (by assumption) ?_
    rotate_left
    · intro w hSw; obtain ⟨s0, s1, s2, s3, s4, s5⟩ := hSw; go_simp; (try with_reducible rfl)
    try change wpAnyH _ _ _ _ _ _ _ (Act.put _ (some 26) _) _
    try simp only [act_all]
    refine wpAnyH_take (i := 7) (oi := _) (v := ?_) rfl (by kernel_rfl) (by kernel_rfl) (by kernel_rfl) (fun _ _ _ h => h) (Or.inl ⟨by rfl, ?_⟩) (by assumption) ?_
    rotate_left
    · intro w hSw; obtain ⟨s0, s1, s2, s3, s4, s5⟩ := hSw; go_simp; (try with_reducible rfl)
    try change wpAnyH _ _ _ _ _ _ _ (Act.put _ (some 27) _) _
    try simp only [act_all]
    refine wpAnyH_take (i := 8) (oi := _) (v := ?_) rfl (by kernel_rfl) (by kernel_rfl) (by kernel_rfl) (fun _ _ _ h => h) (Or.inl ⟨by rfl, ?_⟩) (by assumption) ?_
    rotate_left
    · intro w hSw; obtain ⟨s0, s1, s2, s3, s4, s5⟩ := hSw; go_simp; (try with_reducible rfl)
    try change wpAnyH _ _ _ _ _ _ _ (Act.put _ (some 28) _) _
    try simp only [act_all]
    refine wpAnyH_take (i := 9) (oi := _) (v := ?_) rfl (by kernel_rfl) (by kernel_rfl) (by kernel_rfl) (fun _ _ _ h => h) (Or.inl ⟨by rfl, ?_⟩) (by assumption) ?_
    rotate_left
    · intro w hSw; obtain ⟨s0, s1, s2, s3, s4, s5⟩ := hSw; go_simp; (try with_reducible rfl)
    try change wpAnyH _ _ _ _ _ _ _ (Act.put _ (some 29) _) _
    try simp only [act_all]
    refine wpAnyH_take (i := 10) (oi := _) (v := ?_) rfl (by kernel_rfl) (by kernel_rfl) (by kernel_rfl) (fun _ _ _ h => h) (Or.inl ⟨by rfl, ?_⟩) (by assumption) ?_
    rotate_left
    · intro w hSw; obtain ⟨s0, s1, s2, s3, s4, s5⟩ := hSw; go_simp; (try with_reducible rfl)
    try change wpAnyH _ _ _ _ _ _ _ (Act.put _ (some 30) _) _
    try simp only [act_all]
    refine wpAnyH_take (i := 11) (oi := _) (v := _) rfl (by kernel_rfl) (by kernel_rfl) (by kernel_rfl) (fun _ _ _ h => h) (yieldsIf_load_mid (by rfl) 68 _ rfl b3 0 rfl ([.int .i64 W, .int .i64 H, .int .i64 M, .int .i64 B, .slice ao n cp, .map (some m)]) _ (fun w' hh => range_row hh.1 0 [.int .i64 W, .int .i64 H, .int .i64 M, .int .i64 B, .slice ao n cp, .map (some m)] (fun j hj => by simp only [Nat.zero_add, List.getElem?_toArray])) Try.underlying68 rfl (by kernel_rfl)) (by assumption) ?_
    try change wpAnyH _ _ _ _ _ _ _ (Act.put _ (some 31) _) _
    try simp only [act_all]
    refine wpAnyH_take (i := 12) (oi := _) (v := ?_) rfl (by kernel_rfl) (by kernel_rfl) (by kernel_rfl) (fun _ _ _ h => h) (Or.inl ⟨by rfl, ?_⟩) (by assumption) ?_
    rotate_left
    · intro w hSw; obtain ⟨s0, s1, s2, s3, s4, s5⟩ := hSw; go_simp; (try with_reducible rfl)
    try change wpAnyH _ _ _ _ _ _ _ (Act.put _ (some 32) _) _
    try simp only [act_all]
    refine wpAnyH_take (i := 13) (oi := _) (v := ?_) rfl (by kernel_rfl) (by kernel_rfl) (by kernel_rfl) (fun _ _ _ h => h) (Or.inl ⟨by rfl, ?_⟩) (by assumption) ?_
    rotate_left
    · intro w hSw; obtain ⟨s0, s1, s2, s3, s4, s5⟩ := hSw; go_simp; (try with_reducible rfl)
    try change wpAnyH _ _ _ _ _ _ _ (Act.put _ (some 33) _) _
    try simp only [act_all]
    refine wpAnyH_take (i := 14) (oi := _) (v := ?_) rfl (by kernel_rfl) (by kernel_rfl) (by kernel_rfl) (fun _ _ _ h => h) (Or.inl ⟨by rfl, ?_⟩) (by assumption) ?_
    rotate_left
    · intro w hSw; obtain ⟨s0, s1, s2, s3, s4, s5⟩ := hSw; go_simp; (try with_reducible rfl)
    try change wpAnyH _ _ _ _ _ _ _ (Act.put _ (some 34) _) _
    try simp only [act_all]
    refine wpAnyH_take (i := 15) (oi := _) (v := ?_) rfl (by kernel_rfl) (by kernel_rfl) (by kernel_rfl) (fun _ _ _ h => h) (Or.inl ⟨by rfl, ?_⟩) (by assumption) ?_
    rotate_left
    · intro w hSw; obtain ⟨s0, s1, s2, s3, s4, s5⟩ := hSw; go_simp; (try with_reducible rfl)
    try change wpAnyH _ _ _ _ _ _ _ (Act.put _ (some 35) _) _
    try simp only [act_all]
    refine wpAnyH_ready (rs := [16]) (by kernel_rfl) (by simp) ?_
    refine AllReadyH.cons (o := _) rfl (fun K hK => ?_) AllReadyH.nil
    go_simp
    refine (bend_any W H M B k vd n cp m ao _).mono ?_
    rw [HBV.out]
    rintro e_ u1 ⟨rfl, hb⟩
    have hb2 : Below w1.heap.size w1 u1 := (Below.refl w1.heap.size w1).drew.trans hb
    have KM2 := Lib.hid (KM'.out.keep (hb2.block _ KM'.out.lt))
    have KQ2 : Hid (QAt u1 (fun k => (S k ∧ k ≠ b3 ∧ k ≠ b5) ∧ k ≠ b7) Q n' f') := Lib.hid ((KQ'.out.sep (b := w1.heap.size) hb2 (Nat.le_refl _)).more (fun _ h => h.1))
    have KO2 : Hid (Oth (fun k => k = Q ∨ S k) w u1) := Lib.hid (KO'.out.trans (Oth.of_below hb2))
    have S2 : u1.heap[b3]? = some (.cells #[.int .i64 W, .int .i64 H, .int .i64 M, .int .i64 B, .slice ao n cp, .map (some m)] 68 (0, 0)) ∧ u1.heap[b5]? = some (.cells #[.int .i64 vx, .int .i64 vy, .int .i64 vd, .int .i64 vc] 124 (0, 0)) ∧ u1.heap[b7]? = some (.cells #[.int .i64 px, .int .i64 py] 26 (0, 0)) ∧ u1.cell? ⟨b5, 3, none⟩ = some (.int .i64 vc) ∧ u1.cell? ⟨b5, 2, none⟩ = some (.int .i64 vd) ∧ u1.cell? ⟨b3, 2, none⟩ = some (.int .i64 M) := G1.out _ (hb2.block _ l31) (hb2.block _ hz1) (hb2.block _ l71)
    have hz2 : b7 < u1.heap.size := Nat.lt_of_lt_of_le l71 hb2.size
    clear hb hb2 KM' KQ' KO'
    refine hK.out _ _ S2 (fun hHeld => ?_)
    clear hK K
    try simp only [act_all]
    refine wpAnyH_take (i := 17) (oi := _) (v := ?_) rfl (by kernel_rfl) (by kernel_rfl) (by kernel_rfl) (fun _ _ _ h => h) (Or.inl ⟨by rfl, ?_⟩) (by assumption) ?_
    rotate_left
    · intro w hSw; obtain ⟨s0, s1, s2, s3, s4, s5⟩ := hSw; go_simp; (try with_reducible rfl)
    try change wpAnyH _ _ _ _ _ _ _ (Act.put _ (some 37) _) _
    try simp only [act_all]
    refine wpAnyH_take (i := 18) (oi := _) (v := ?_) rfl (by kernel_rfl) (by kernel_rfl) (by kernel_rfl) (fun _ _ _ h => h) (Or.inl ⟨by rfl, ?_⟩) (by assumption) ?_
    rotate_left
    · intro w hSw; obtain ⟨s0, s1, s2, s3, s4, s5⟩ := hSw; go_simp; (try with_reducible rfl)
    try change wpAnyH _ _ _ _ _ _ _ (Act.put _ (some 38) _) _
    try simp only [act_all]
    refine wpAnyH_take (i := 19) (oi := _) (v := ?_) rfl (by kernel_rfl) (by kernel_rfl) (by kernel_rfl) (fun _ _ _ h => h) (Or.inl ⟨by rfl, ?_⟩) (by assumption) ?_
    rotate_left
    · intro w hSw; obtain ⟨s0, s1, s2, s3, s4, s5⟩ := hSw; go_simp; (try with_reducible rfl)
    try change wpAnyH _ _ _ _ _ _ _ (Act.put _ (some 39) _) _
    try simp only [act_all]
    refine wpAnyH_ready (rs := [20]) (by kernel_rfl) (by simp) ?_
    refine AllReadyH.cons (o := _) rfl (fun K hK => ?_) AllReadyH.nil
    go_simp
    rw [WR1.out, WR2.out]
    refine (hPush_any (fun k => (S k ∧ k ≠ b3 ∧ k ≠ b5) ∧ k ≠ b7) Q n' f' px py k (vc + M + bv) _ KQ2.out HH.out (by omega) (fun k hk => ⟨⟨HS3.out k (by omega), by omega, by omega⟩, by omega⟩)).mono ?_
    rintro e_ u2 ⟨rfl, ho, f2, hq2, hh2, hm2⟩
    have K3n : u2.heap[b3]? = some (.cells #[.int .i64 W, .int .i64 H, .int .i64 M, .int .i64 B, .slice ao n cp, .map (some m)] 68 (0, 0)) := (ho.block _ (by omega) (fun h => h.elim (fun h => by omega) (fun h => h.1.2.1 rfl))).trans S2.1
    have K5n : u2.heap[b5]? = some (.cells #[.int .i64 vx, .int .i64 vy, .int .i64 vd, .int .i64 vc] 124 (0, 0)) := (ho.block _ (by omega) (fun h => h.elim (fun h => by omega) (fun h => h.1.2.2 rfl))).trans S2.2.1
    have K7n : u2.heap[b7]? = some (.cells #[.int .i64 px, .int .i64 py] 26 (0, 0)) := (ho.block _ (by omega) (fun h => h.elim (fun h => by omega) (fun h => h.2 rfl))).trans S2.2.2.1
    have KM3 := Lib.hid (KM2.out.keep (ho.block _ KM2.out.lt (fun h => h.elim (fun h => hmQ h) (fun h => HSm.out h.1.1))))
    have KQ3 : Hid (QAt u2 (fun k => S k ∧ k ≠ b3 ∧ k ≠ b5) Q (n' + 1) f2) := Lib.hid (hq2.more (fun _ h => h.1))
    have KO3 : Hid (Oth (fun k => k = Q ∨ S k) w u2) := Lib.hid (KO2.out.trans (ho.mono (fun _ _ h => h.imp id (fun h => h.1.1))))
    have KH3 := Lib.hid hh2
    have KP3 : Hid (P ((k : Int) + 1) f2 (n' + 1)) := Lib.hid (HP.out k f' n' f2 (n' + 1) (by omega) (by omega) HPk.out (Ext1.yes (by unfold opp; rw [HPX.out, HPY.out]; exact hop) (by unfold opp; rw [HPX.out, HPY.out, HBV.out]; exact hm2)))
    have hz3 : b5 < u2.heap.size := by have := ho.size; omega
    have S3 : u2.heap[b3]? = some (.cells #[.int .i64 W, .int .i64 H, .int .i64 M, .int .i64 B, .slice ao n cp, .map (some m)] 68 (0, 0)) ∧ u2.heap[b5]? = some (.cells #[.int .i64 vx, .int .i64 vy, .int .i64 vd, .int .i64 vc] 124 (0, 0)) ∧ u2.heap[b7]? = some (.cells #[.int .i64 px, .int .i64 py] 26 (0, 0)) ∧ u2.cell? ⟨b5, 3, none⟩ = some (.int .i64 vc) ∧ u2.cell? ⟨b5, 2, none⟩ = some (.int .i64 vd) ∧ u2.cell? ⟨b3, 2, none⟩ = some (.int .i64 M) := ⟨K3n, K5n, K7n, cell_of_blk K5n rfl, cell_of_blk K5n rfl, cell_of_blk K3n rfl⟩
    have KK3 := Lib.hid (And.intro K3n K5n)
    clear ho hq2 hh2 hm2 KM2 KQ2 KO2 S2 K3n K5n K7n HPk HH hHeld
    refine hK.out _ _ S3 (fun hHeld => ?_)
    clear hK K
    try simp only [act_all]
    refine wpAnyH_done (by kernel_rfl) ?_ _
    clear hHeld S3
    go_wp2_with fail
    go_roundg (4 - (k + 1))
    case rel => exact ⟨k + 1, f2, n' + 1, by go_num, Lib.hid (by omega), by omega, by omega, KQ3, KH3, by push_cast; exact KP3, KM3, Lib.hid KK3.out.1, Lib.hid KK3.out.2, KO3, hz3⟩
    case measure => have := HGG.out; omega
end Go.Proofs.Ytkkcnhhfdicppaa
