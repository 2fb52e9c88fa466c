import Derived.Test.YtkkcnhhfdicppaaZa7
namespace Go.Proofs.Ytkkcnhhfdicppaa
open Go.RowKit Lay
/-- The queue: its variable in block Q, its visits in a block of S. -/
def QAt (w : World) (S : Nat → Prop) (Q n : Nat) (f : Nat → V) : Prop :=
  ∃ g cap, w.heap[Q]? = some (.cells #[.slice (some ⟨g, 0, none⟩) n cap] 121 (0, 0)) ∧ S g ∧ g ≠ Q ∧ QArr w g n cap f
theorem visit_info : (Try.prog.info? 124).map (fun i => (i.zero, i.size, i.bytes)) = some (some (.agg #[.int .i64 0, .int .i64 0, .int .i64 0, .int .i64 0]), 4, 32) := by kernel_rfl
/-- One more visit behind the others. -/
theorem QArr.pushed {w' : World} {g' n cap cap' : Nat} {cur : Array Value} {f : Nat → V} {v : V} (hs : cur.size = cap * 4) (h1 : n ≤ cap)
    (h3 : ∀ i, i < n → cur[i * 4]? = some (.int .i64 (f i).x) ∧ cur[i * 4 + 1]? = some (.int .i64 (f i).y) ∧ cur[i * 4 + 2]? = some (.int .i64 (f i).d) ∧ cur[i * 4 + 3]? = some (.int .i64 (f i).c))
    (hown : w'.ownsRow 0 124 4 (.slice (some ⟨g', 0, none⟩) (n + 1) cap') (n + 1) (cur.toList.take (n * 4) ++ [.int .i64 v.x, .int .i64 v.y, .int .i64 v.d, .int .i64 v.c])) : QArr w' g' (n + 1) cap' (upd f n v) := by
  obtain ⟨_, ⟨hnil, _⟩ | ⟨g2, cap2, cur2, he, _, hb, hle, hml, hsz, htk⟩⟩ := hown
  · cases hnil
  · injection he with e1 e2 e3
    injection e1 with e1
    injection e1 with e1
    subst e1; subst e3
    refine ⟨cur2, hb, hsz, hle, hml, ?_⟩
    have hget : ∀ j, j < (n + 1) * 4 → cur2[j]? = (cur.toList.take (n * 4) ++ [.int .i64 v.x, .int .i64 v.y, .int .i64 v.d, .int .i64 v.c])[j]? := by
      intro j hj
      rw [← htk, List.getElem?_take_of_lt hj, Array.getElem?_toList]
    have hlen : (cur.toList.take (n * 4)).length = n * 4 := by simp; omega
    intro i hi
    rw [hget _ (by omega), hget _ (by omega), hget _ (by omega), hget _ (by omega)]
    by_cases e : i = n
    · subst e
      rw [upd_eq]
      rw [List.getElem?_append_right (by omega), List.getElem?_append_right (by omega), List.getElem?_append_right (by omega), List.getElem?_append_right (by omega), hlen]
      rw [show i * 4 - i * 4 = 0 by omega, show i * 4 + 1 - i * 4 = 1 by omega, show i * 4 + 2 - i * 4 = 2 by omega, show i * 4 + 3 - i * 4 = 3 by omega]
      exact ⟨rfl, rfl, rfl, rfl⟩
    · rw [upd_ne f v e]
      have hin : i < n := by omega
      rw [List.getElem?_append_left (by omega), List.getElem?_append_left (by omega), List.getElem?_append_left (by omega), List.getElem?_append_left (by omega)]
      rw [List.getElem?_take_of_lt (by omega), List.getElem?_take_of_lt (by omega), List.getElem?_take_of_lt (by omega), List.getElem?_take_of_lt (by omega)]
      simp only [Array.getElem?_toList]
      exact h3 i hin
theorem as_visit (v : Value) (w : World) : (Instr.typeAssert (.iface 124 v) 20 124 true).run Try.prog w = .ok (.tuple #[v, .bool true]) w := by kernel_rfl
set_option maxRecDepth 100000 in
set_option maxHeartbeats 2000000 in
theorem qPush_any (S : Nat → Prop) (Q n : Nat) (f : Nat → V) (x y d c : Int) (w : World) (hq : QAt w S Q n f) (hn : n < 1000000) (hS : ∀ k, w.heap.size ≤ k → S k) :
    Calls Try.prog 110 #[.pointer (some ⟨Q, 0, none⟩), .iface 124 (.agg #[.int .i64 x, .int .i64 y, .int .i64 d, .int .i64 c])] w fun e w' => e = .returned (.tuple #[]) ∧ Oth (fun k => k = Q ∨ S k) w w' ∧ QAt w' S Q (n + 1) (upd f n ⟨x, y, d, c⟩) := by
  obtain ⟨g, cap, hQ, hSg, hgQ, hA⟩ := hq
  have HA := Lib.hid hA
  have HQ := Lib.hid hQ
  clear hA hQ
  have hta := as_visit (.agg #[.int .i64 x, .int .i64 y, .int .i64 d, .int .i64 c])
  go_enter Try.func110, Try.ntmps110
  go_upto_region 2 with fail
  have hV1 : (w.alloc (.cells #[.int .i64 x, .int .i64 y, .int .i64 d, .int .i64 c] 124)).heap[w.heap.size]? = some (.cells #[.int .i64 x, .int .i64 y, .int .i64 d, .int .i64 c] 124 (0, 0)) := heap_alloc_new w _
  have hlq : Q < w.heap.size := (Array.getElem?_eq_some_iff.1 HQ.out).1
  have hlg : g < w.heap.size := HA.out.lt
  have hQ1 : Hid ((w.alloc (.cells #[.int .i64 x, .int .i64 y, .int .i64 d, .int .i64 c] 124)).heap[Q]? = some (.cells #[.slice (some ⟨g, 0, none⟩) n cap] 121 (0, 0))) := Lib.hid ((Below.heap_alloc _ _ _ hlq).trans HQ.out)
  have hA1 : Hid (QArr (w.alloc (.cells #[.int .i64 x, .int .i64 y, .int .i64 d, .int .i64 c] 124)) g n cap f) := Lib.hid (HA.out.keep (Below.heap_alloc _ _ _ hlg))
  have hO1 : Hid (Oth (fun k => k = Q ∨ S k) w (w.alloc (.cells #[.int .i64 x, .int .i64 y, .int .i64 d, .int .i64 c] 124))) := Lib.hid ((Oth.refl _ w).alloc _)
  have hs1 : (w.alloc (.cells #[.int .i64 x, .int .i64 y, .int .i64 d, .int .i64 c] 124)).heap.size = w.heap.size + 1 := by simp
  have HV1 := Lib.hid hV1
  clear hV1 HA HQ hta
  generalize (w.alloc (.cells #[.int .i64 x, .int .i64 y, .int .i64 d, .int .i64 c] 124)) = W1 at *
  obtain ⟨B1, hB1⟩ : ∃ z, z = w.heap.size := ⟨_, rfl⟩
  rw [← hB1] at HV1 hs1 hlq hlg hS
  have hB2 := Lib.hid hB1
  try rw [← hB1]
  clear hB1
  obtain ⟨i0, hi, hz0, hz1, hz2⟩ := info_parts visit_info
  have HI := Lib.hid (And.intro hi (And.intro hz0 (And.intro hz1 hz2)))
  clear hi hz0 hz1 hz2
  refine wp_region_held_drew (S := fun w' => w'.heap[B1]? = some (.cells #[.int .i64 x, .int .i64 y, .int .i64 d, .int .i64 c] 124 (0, 0))) (by kernel_rfl) HV1.out (fun hHeld => ?_)
  refine wpAnyH_take (i := 0) (oi := _) (v := ?_) rfl (by kernel_rfl) (by kernel_rfl) (by kernel_rfl) (fun _ _ _ h => h) (Or.inl ⟨by rfl, ?_⟩) (by assumption) ?_
  rotate_left
  · intro w hSw; go_simp; (try with_reducible rfl)
  try change wpAnyH _ _ _ _ _ _ _ (Act.put _ (some 12) _) _
  try simp only [act_all]
  refine wpAnyH_take (i := 1) (oi := _) (v := ?_) rfl (by kernel_rfl) (by kernel_rfl) (by kernel_rfl) (fun _ _ _ h => h) (Or.inl ⟨by rfl, ?_⟩) (by assumption) ?_
  rotate_left
  · intro w hSw; go_simp; (try with_reducible rfl)
  try change wpAnyH _ _ _ _ _ _ _ (Act.put _ (some 13) _) _
  try simp only [act_all]
  refine wpAnyH_take (i := 2) (oi := _) (v := ?_) rfl (by kernel_rfl) (by kernel_rfl) (by kernel_rfl) (fun _ _ _ h => h) (Or.inl ⟨by rfl, ?_⟩) (by assumption) ?_
  rotate_left
  · intro w hSw; go_simp; (try with_reducible rfl)
  try change wpAnyH _ _ _ _ _ _ _ (Act.put _ (some 14) _) _
  try simp only [act_all]
  refine wpAnyH_take (i := 4) (oi := _) (v := _) rfl (by kernel_rfl) (by kernel_rfl) (by kernel_rfl) (fun _ _ _ h => h) (yieldsIf_load_mid (by rfl) 124 _ rfl B1 0 rfl ([.int .i64 x, .int .i64 y, .int .i64 d, .int .i64 c]) _ (fun w' hh => range_row hh 0 [.int .i64 x, .int .i64 y, .int .i64 d, .int .i64 c] (fun j hj => by simp only [Nat.zero_add, List.getElem?_toArray])) Try.underlying124 rfl (by kernel_rfl)) (by assumption) ?_
  try change wpAnyH _ _ _ _ _ _ _ (Act.put _ (some 16) _) _
  try simp only [act_all]
  refine wpAnyH_ready (rs := [3, 5]) (by kernel_rfl) (by simp) ?_
  refine AllReadyH.cons (o := _) rfl (fun K hK => ?_) ?_
  ·
    have v0 : W1.drew.cell? ⟨Q, 0, none⟩ = some (.slice (some ⟨g, 0, none⟩) n cap) := (cell_of_row _ _ _ _ _ (0, 0) (show W1.drew.heap[Q]? = _ from hQ1.out)).trans rfl
    go_simp
    refine hK.out _ _ (show W1.drew.heap[B1]? = _ from HV1.out) (fun hHeld => ?_)
    clear hK K
    try simp only [act_all]
    clear v0
    refine wpAnyH_ready (rs := [5]) (by kernel_rfl) (by simp) ?_
    refine AllReadyH.cons (o := _) rfl (fun K hK => ?_) AllReadyH.nil
    go_simp
    have ls2 : W1.drew.heap.size = B1 + 1 := hs1
    have q2 : (W1.alloc (.cells #[.int .i64 x, .int .i64 y, .int .i64 d, .int .i64 c] 124)).drew.heap[Q]? = some (.cells #[(.slice (some ⟨g, 0, none⟩) n cap)] 121 (0, 0)) := (Below.heap_alloc _ _ _ (by omega)).trans (show W1.drew.heap[Q]? = _ from hQ1.out)
    have s2 : (W1.alloc (.cells #[.int .i64 x, .int .i64 y, .int .i64 d, .int .i64 c] 124)).drew.heap[B1]? = some (.cells #[.int .i64 x, .int .i64 y, .int .i64 d, .int .i64 c] 124 (0, 0)) := (Below.heap_alloc _ _ _ (by omega)).trans (show W1.drew.heap[B1]? = _ from HV1.out)
    have a2 : QArr (W1.alloc (.cells #[.int .i64 x, .int .i64 y, .int .i64 d, .int .i64 c] 124)).drew g n cap f := QArr.keep (show QArr W1.drew g n cap f from hA1.out) (Below.heap_alloc _ _ _ (by omega))
    have o2 : Oth (fun k => k = Q ∨ S k) w (W1.alloc (.cells #[.int .i64 x, .int .i64 y, .int .i64 d, .int .i64 c] 124)).drew := (Oth.alloc hO1.out _).drew
    have z2 : (W1.alloc (.cells #[.int .i64 x, .int .i64 y, .int .i64 d, .int .i64 c] 124)).drew.heap.size = B1 + 2 := by simp; omega
    have y2 : (W1.alloc (.cells #[.int .i64 x, .int .i64 y, .int .i64 d, .int .i64 c] 124)).drew.heap[B1 + 1]? = some (.cells #[.int .i64 x, .int .i64 y, .int .i64 d, .int .i64 c] 124 (0, 0)) := by have h := heap_alloc_new W1 (.cells #[.int .i64 x, .int .i64 y, .int .i64 d, .int .i64 c] 124); rwa [show W1.heap.size = B1 + 1 from hs1] at h
    try rw [ls2]
    refine hK.out _ _ s2 (fun hHeld => ?_)
    clear hK K
    try simp only [act_all]
    refine wpAnyH_ready (rs := [6]) (by kernel_rfl) (by simp) ?_
    refine AllReadyH.cons (o := _) rfl (fun K hK => ?_) AllReadyH.nil
    obtain ⟨cur, hcu, hcs, hc1, hc2, hc3⟩ := a2
    refine step_append_lies _ (by rfl) _ _ 121 (by rfl) 0 124 i0 _ 4 32 Try.underlying121 HI.out.1 HI.out.2.1 HI.out.2.2.1 HI.out.2.2.2 (by rfl) (by decide) (.slice (some ⟨g, 0, none⟩) n cap) n (cur.toList.take (n * 4)) (by rfl) ⟨by simp; omega, Or.inr ⟨g, cap, cur, rfl, Nat.zero_le _, hcu, hc1, hc2, hcs, rfl⟩⟩ ⟨B1 + 1, 0, none⟩ 1 1 [.int .i64 x, .int .i64 y, .int .i64 d, .int .i64 c] (by rfl) rfl (fun j u hu => World.news_of_block (cs := #[.int .i64 x, .int .i64 y, .int .i64 d, .int .i64 c]) y2 j u hu) (by intro u hu; simp only [List.mem_cons, List.not_mem_nil, or_false] at hu; rcases hu with rfl | rfl | rfl | rfl <;> rfl) (by omega) (by unfold maxLen; omega) (by omega) (Nat.zero_le _) _ rfl ?_
    intro g' cap' w9 hown' hgrow hor hlg'
    have hg' : g' = g ∨ g' = B1 + 2 := hor.imp (fun h => by simpa [Value.ownBlock] using h.symm) (fun h => h.trans z2)
    have hblk : ∀ k, k < B1 + 2 → k ≠ g → w9.heap[k]? = (W1.alloc (.cells #[.int .i64 x, .int .i64 y, .int .i64 d, .int .i64 c] 124)).drew.heap[k]? := fun k hk hn => hgrow.block k (by rw [z2]; exact hk) (fun e => hn (by simpa [Value.ownBlock] using e))
    have AP := Lib.hid (QArr.pushed (f := f) (v := ⟨x, y, d, c⟩) hcs hc1 hc3 hown')
    have OP : Hid (Oth (fun k => k = Q ∨ S k) w w9) := Lib.hid (Oth.trans o2 (Oth.of_grown hgrow (fun k hk => Or.inr (by simp [Value.ownBlock] at hk; rw [← hk]; exact hSg))))
    have SP : Hid (S g' ∧ g' ≠ Q) := Lib.hid (by rcases hg' with h | h <;> subst h <;> first | exact ⟨hSg, hgQ⟩ | exact ⟨hS _ (by omega), by omega⟩)
    have q9 : w9.heap[Q]? = some (.cells #[(.slice (some ⟨g, 0, none⟩) n cap)] 121 (0, 0)) := (hblk Q (by omega) (fun e => hgQ e.symm)).trans q2
    have s9 : w9.heap[B1]? = some (.cells #[.int .i64 x, .int .i64 y, .int .i64 d, .int .i64 c] 124 (0, 0)) := (hblk B1 (by omega) (by omega)).trans s2
    clear hgrow hblk hor hown' hcu hcs hc1 hc2 hc3 hg'
    refine hK.out _ _ s9 (fun hHeld => ?_)
    clear hK K
    try simp only [act_all]
    refine wpAnyH_take (i := 7) (oi := _) (v := ?_) rfl (by kernel_rfl) (by kernel_rfl) (by kernel_rfl) (fun _ _ _ h => h) (Or.inl ⟨by rfl, ?_⟩) (by assumption) ?_
    rotate_left
    · intro w hSw; go_simp; (try with_reducible rfl)
    try change wpAnyH _ _ _ _ _ _ _ (Act.put _ (some 19) _) _
    try simp only [act_all]
    refine wpAnyH_ready (rs := [8]) (by kernel_rfl) (by simp) ?_
    refine AllReadyH.cons (o := _) rfl (fun K hK => ?_) AllReadyH.nil
    have v0 : w9.cell? ⟨Q, 0, none⟩ = some (.slice (some ⟨g, 0, none⟩) n cap) := (cell_of_row _ _ _ _ _ (0, 0) q9).trans rfl
    have v1 : w9.frozen? ⟨Q, 0, none⟩ = false := by simp [World.frozen?, q9]
    go_simp
    have QP : Hid ((w9.setCell ⟨Q, 0, none⟩ (.slice (some ⟨g', 0, none⟩) (n + 1) cap')).heap[Q]? = some (.cells #[(.slice (some ⟨g', 0, none⟩) (n + 1) cap')] 121 (0, 0))) := Lib.hid (blk_set q9 _)
    have AP2 : Hid (QArr (w9.setCell ⟨Q, 0, none⟩ (.slice (some ⟨g', 0, none⟩) (n + 1) cap')) g' (n + 1) cap' (upd f n ⟨x, y, d, c⟩)) := Lib.hid (AP.out.keep (Below.heap_setCell _ _ _ _ (fun e => SP.out.2 e)))
    have OP2 : Hid (Oth (fun k => k = Q ∨ S k) w (w9.setCell ⟨Q, 0, none⟩ (.slice (some ⟨g', 0, none⟩) (n + 1) cap'))) := Lib.hid (OP.out.set (Or.inl rfl) 0 _)
    have s10 : (w9.setCell ⟨Q, 0, none⟩ (.slice (some ⟨g', 0, none⟩) (n + 1) cap')).heap[B1]? = some (.cells #[.int .i64 x, .int .i64 y, .int .i64 d, .int .i64 c] 124 (0, 0)) := (Below.heap_setCell _ _ _ _ (show B1 ≠ Q by omega)).trans s9
    refine hK.out _ _ s10 (fun hHeld => ?_)
    clear hK K
    try simp only [act_all]
    clear v0 v1
    refine wpAnyH_done (by kernel_rfl) ?_ _
    clear hHeld
    go_wp2_with fail
    go_end0
    exact ⟨rfl, by first | exact OP2.out | exact OP2.out.drew, ⟨g', cap', QP.out, SP.out.1, SP.out.2, by first | exact AP2.out | exact AP2.out.drew⟩⟩
  refine AllReadyH.cons (o := _) rfl (fun K hK => ?_) AllReadyH.nil
  go_simp
  have ls5 : W1.drew.heap.size = B1 + 1 := hs1
  have q5 : (W1.alloc (.cells #[.int .i64 x, .int .i64 y, .int .i64 d, .int .i64 c] 124)).drew.heap[Q]? = some (.cells #[(.slice (some ⟨g, 0, none⟩) n cap)] 121 (0, 0)) := (Below.heap_alloc _ _ _ (by omega)).trans (show W1.drew.heap[Q]? = _ from hQ1.out)
  have s5 : (W1.alloc (.cells #[.int .i64 x, .int .i64 y, .int .i64 d, .int .i64 c] 124)).drew.heap[B1]? = some (.cells #[.int .i64 x, .int .i64 y, .int .i64 d, .int .i64 c] 124 (0, 0)) := (Below.heap_alloc _ _ _ (by omega)).trans (show W1.drew.heap[B1]? = _ from HV1.out)
  have a5 : QArr (W1.alloc (.cells #[.int .i64 x, .int .i64 y, .int .i64 d, .int .i64 c] 124)).drew g n cap f := QArr.keep (show QArr W1.drew g n cap f from hA1.out) (Below.heap_alloc _ _ _ (by omega))
  have o5 : Oth (fun k => k = Q ∨ S k) w (W1.alloc (.cells #[.int .i64 x, .int .i64 y, .int .i64 d, .int .i64 c] 124)).drew := (Oth.alloc hO1.out _).drew
  have z5 : (W1.alloc (.cells #[.int .i64 x, .int .i64 y, .int .i64 d, .int .i64 c] 124)).drew.heap.size = B1 + 2 := by simp; omega
  have y5 : (W1.alloc (.cells #[.int .i64 x, .int .i64 y, .int .i64 d, .int .i64 c] 124)).drew.heap[B1 + 1]? = some (.cells #[.int .i64 x, .int .i64 y, .int .i64 d, .int .i64 c] 124 (0, 0)) := by have h := heap_alloc_new W1 (.cells #[.int .i64 x, .int .i64 y, .int .i64 d, .int .i64 c] 124); rwa [show W1.heap.size = B1 + 1 from hs1] at h
  try rw [ls5]
  refine hK.out _ _ s5 (fun hHeld => ?_)
  clear hK K
  try simp only [act_all]
  refine wpAnyH_ready (rs := [3]) (by kernel_rfl) (by simp) ?_
  refine AllReadyH.cons (o := _) rfl (fun K hK => ?_) AllReadyH.nil
  have v0 : (W1.alloc (.cells #[.int .i64 x, .int .i64 y, .int .i64 d, .int .i64 c] 124)).drew.cell? ⟨Q, 0, none⟩ = some (.slice (some ⟨g, 0, none⟩) n cap) := (cell_of_row _ _ _ _ _ (0, 0) q5).trans rfl
  go_simp
  refine hK.out _ _ s5 (fun hHeld => ?_)
  clear hK K
  try simp only [act_all]
  clear v0
  refine wpAnyH_ready (rs := [6]) (by kernel_rfl) (by simp) ?_
  refine AllReadyH.cons (o := _) rfl (fun K hK => ?_) AllReadyH.nil
  obtain ⟨cur, hcu, hcs, hc1, hc2, hc3⟩ := a5
  refine step_append_lies _ (by rfl) _ _ 121 (by rfl) 0 124 i0 _ 4 32 Try.underlying121 HI.out.1 HI.out.2.1 HI.out.2.2.1 HI.out.2.2.2 (by rfl) (by decide) (.slice (some ⟨g, 0, none⟩) n cap) n (cur.toList.take (n * 4)) (by rfl) ⟨by simp; omega, Or.inr ⟨g, cap, cur, rfl, Nat.zero_le _, hcu, hc1, hc2, hcs, rfl⟩⟩ ⟨B1 + 1, 0, none⟩ 1 1 [.int .i64 x, .int .i64 y, .int .i64 d, .int .i64 c] (by rfl) rfl (fun j u hu => World.news_of_block (cs := #[.int .i64 x, .int .i64 y, .int .i64 d, .int .i64 c]) y5 j u hu) (by intro u hu; simp only [List.mem_cons, List.not_mem_nil, or_false] at hu; rcases hu with rfl | rfl | rfl | rfl <;> rfl) (by omega) (by unfold maxLen; omega) (by omega) (Nat.zero_le _) _ rfl ?_
  intro g' cap' w9 hown' hgrow hor hlg'
  have hg' : g' = g ∨ g' = B1 + 2 := hor.imp (fun h => by simpa [Value.ownBlock] using h.symm) (fun h => h.trans z5)
  have hblk : ∀ k, k < B1 + 2 → k ≠ g → w9.heap[k]? = (W1.alloc (.cells #[.int .i64 x, .int .i64 y, .int .i64 d, .int .i64 c] 124)).drew.heap[k]? := fun k hk hn => hgrow.block k (by rw [z5]; exact hk) (fun e => hn (by simpa [Value.ownBlock] using e))
  have AP := Lib.hid (QArr.pushed (f := f) (v := ⟨x, y, d, c⟩) hcs hc1 hc3 hown')
  have OP : Hid (Oth (fun k => k = Q ∨ S k) w w9) := Lib.hid (Oth.trans o5 (Oth.of_grown hgrow (fun k hk => Or.inr (by simp [Value.ownBlock] at hk; rw [← hk]; exact hSg))))
  have SP : Hid (S g' ∧ g' ≠ Q) := Lib.hid (by rcases hg' with h | h <;> subst h <;> first | exact ⟨hSg, hgQ⟩ | exact ⟨hS _ (by omega), by omega⟩)
  have q9 : w9.heap[Q]? = some (.cells #[(.slice (some ⟨g, 0, none⟩) n cap)] 121 (0, 0)) := (hblk Q (by omega) (fun e => hgQ e.symm)).trans q5
  have s9 : w9.heap[B1]? = some (.cells #[.int .i64 x, .int .i64 y, .int .i64 d, .int .i64 c] 124 (0, 0)) := (hblk B1 (by omega) (by omega)).trans s5
  clear hgrow hblk hor hown' hcu hcs hc1 hc2 hc3 hg'
  refine hK.out _ _ s9 (fun hHeld => ?_)
  clear hK K
  try simp only [act_all]
  refine wpAnyH_take (i := 7) (oi := _) (v := ?_) rfl (by kernel_rfl) (by kernel_rfl) (by kernel_rfl) (fun _ _ _ h => h) (Or.inl ⟨by rfl, ?_⟩) (by assumption) ?_
  rotate_left
  · intro w hSw; go_simp; (try with_reducible rfl)
  try change wpAnyH _ _ _ _ _ _ _ (Act.put _ (some 19) _) _
  try simp only [act_all]
  refine wpAnyH_ready (rs := [8]) (by kernel_rfl) (by simp) ?_
  refine AllReadyH.cons (o := _) rfl (fun K hK => ?_) AllReadyH.nil
  have v0 : w9.cell? ⟨Q, 0, none⟩ = some (.slice (some ⟨g, 0, none⟩) n cap) := (cell_of_row _ _ _ _ _ (0, 0) q9).trans rfl
  have v1 : w9.frozen? ⟨Q, 0, none⟩ = false := by simp [World.frozen?, q9]
  go_simp
  have QP : Hid ((w9.setCell ⟨Q, 0, none⟩ (.slice (some ⟨g', 0, none⟩) (n + 1) cap')).heap[Q]? = some (.cells #[(.slice (some ⟨g', 0, none⟩) (n + 1) cap')] 121 (0, 0))) := Lib.hid (blk_set q9 _)
  have AP2 : Hid (QArr (w9.setCell ⟨Q, 0, none⟩ (.slice (some ⟨g', 0, none⟩) (n + 1) cap')) g' (n + 1) cap' (upd f n ⟨x, y, d, c⟩)) := Lib.hid (AP.out.keep (Below.heap_setCell _ _ _ _ (fun e => SP.out.2 e)))
  have OP2 : Hid (Oth (fun k => k = Q ∨ S k) w (w9.setCell ⟨Q, 0, none⟩ (.slice (some ⟨g', 0, none⟩) (n + 1) cap'))) := Lib.hid (OP.out.set (Or.inl rfl) 0 _)
  have s10 : (w9.setCell ⟨Q, 0, none⟩ (.slice (some ⟨g', 0, none⟩) (n + 1) cap')).heap[B1]? = some (.cells #[.int .i64 x, .int .i64 y, .int .i64 d, .int .i64 c] 124 (0, 0)) := (Below.heap_setCell _ _ _ _ (show B1 ≠ Q by omega)).trans s9
  refine hK.out _ _ s10 (fun hHeld => ?_)
  clear hK K
  try simp only [act_all]
  clear v0 v1
  refine wpAnyH_done (by kernel_rfl) ?_ _
  clear hHeld
  go_wp2_with fail
  go_end0
  exact ⟨rfl, by first | exact OP2.out | exact OP2.out.drew, ⟨g', cap', QP.out, SP.out.1, SP.out.2, by first | exact AP2.out | exact AP2.out.drew⟩⟩
set_option maxRecDepth 100000 in
set_option maxHeartbeats 2000000 in
theorem qPop_any (S : Nat → Prop) (Q n : Nat) (f : Nat → V) (w : World) (hq : QAt w S Q (n + 1) f) (hn : n < 1000000) (_hS : ∀ k, w.heap.size ≤ k → S k) :
    Calls Try.prog 109 #[.pointer (some ⟨Q, 0, none⟩)] w fun e w' => e = .returned (.iface 124 (.agg #[.int .i64 (f n).x, .int .i64 (f n).y, .int .i64 (f n).d, .int .i64 (f n).c])) ∧ Oth (fun k => k = Q ∨ S k) w w' ∧ QAt w' S Q n f := by
  obtain ⟨g, cap, hQ, hSg, hgQ, hA⟩ := hq
  have hq1 : w.cell? ⟨Q, 0, none⟩ = some (.slice (some ⟨g, 0, none⟩) (n + 1) cap) := (cell_of_row _ _ _ _ _ (0, 0) hQ).trans rfl
  have hqf : w.frozen? ⟨Q, 0, none⟩ = false := by simp [World.frozen?, hQ]
  obtain ⟨⟨a0, a1, a2, a3⟩, fr⟩ := hA.e (show n < n + 1 by omega)
  have HA := Lib.hid hA
  have HQ := Lib.hid hQ
  have hcap : n + 1 ≤ cap ∧ cap ≤ maxLen := by obtain ⟨_, _, _, h1, h2, _⟩ := hA; exact ⟨h1, h2⟩
  have hlt := hA.lt
  have hltq : Q < w.heap.size := (Array.getElem?_eq_some_iff.1 hQ).1
  clear hA hQ
  go_enter Try.func109, Try.ntmps109
  go_wp2_with fail
  refine bodyPost_ret (v := .iface 124 (.agg #[.int .i64 (f n).x, .int .i64 (f n).y, .int .i64 (f n).d, .int .i64 (f n).c])) (by simp [results, Try.results109, go_sem]) rfl ⟨rfl, ?_, ?_⟩
  · exact ((Oth.refl _ w).set (S := fun k => k = Q ∨ S k) (Or.inl rfl) 0 _).alloc _
  · have e1 : Q < (w.setCell ⟨Q, 0, none⟩ (.slice (some ⟨g, 0, none⟩) n cap)).heap.size := by simp; omega
    have e2 : g < (w.setCell ⟨Q, 0, none⟩ (.slice (some ⟨g, 0, none⟩) n cap)).heap.size := by simp; omega
    exact ⟨g, cap, (Below.heap_alloc _ _ _ e1).trans (blk_set HQ.out _), hSg, hgQ, (HA.out.less (Nat.le_succ n)).keep ((Below.heap_alloc _ _ _ e2).trans (Below.heap_setCell _ _ _ _ (fun e => hgQ e)))⟩
end Go.Proofs.Ytkkcnhhfdicppaa
