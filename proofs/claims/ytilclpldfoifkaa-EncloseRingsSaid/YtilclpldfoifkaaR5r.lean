import Derived.Test.YtilclpldfoifkaaR5a
import Derived.Deep.DeepCutAuto
namespace Encl
/-- How far both roots have come, k rounds ahead of the end. -/
def rootAt (n1 n2 RT RL : Int) (k : Nat) (x y bt : Int) : Prop :=
  rtGo n1 k x = RT ∧ rlGo n2 k y = RL ∧ 0 ≤ x ∧ x + 2 ^ k ≤ 137438953472 ∧ 0 ≤ y ∧ y + 2 ^ k ≤ 137438953472 ∧ bt = 2 ^ k / 2
theorem pow2_half (k : Nat) : (2 : Int) ^ (k + 1) / 2 = 2 ^ k := by rw [Int.pow_succ]; omega
theorem rootAt_next {n1 n2 RT RL x y bt x' y' : Int} {k : Nat} (h : rootAt n1 n2 RT RL (k + 1) x y bt) (hx : x' = if (x + 2 ^ k) * (x + 2 ^ k) ≤ n1 then x + 2 ^ k else x) (hy : y' = if (y + 2 ^ k) * (y + 2 ^ k) < n2 then y + 2 ^ k else y) :
    rootAt n1 n2 RT RL k x' y' (2 ^ k / 2) := by
  obtain ⟨h1, h2, h3, h4, h5, h6, h7⟩ := h
  have hp : (0 : Int) < 2 ^ k := Int.pow_pos (by omega)
  have he : (2 : Int) ^ (k + 1) = 2 ^ k + 2 ^ k := by rw [Int.pow_succ]; omega
  simp only [rtGo] at h1
  simp only [rlGo] at h2
  refine ⟨?_, ?_, ?_, ?_, ?_, ?_, rfl⟩
  · rw [hx, ← h1]; split <;> rfl
  · rw [hy, ← h2]; split <;> rfl
  · rw [hx]; split <;> omega
  · rw [hx]; split <;> omega
  · rw [hy]; split <;> omega
  · rw [hy]; split <;> omega
theorem rootAt_start {n1 n2 RT RL : Int} (h1 : rtGo n1 37 0 = RT) (h2 : rlGo n2 37 0 = RL) : rootAt n1 n2 RT RL 37 0 0 68719476736 := ⟨h1, h2, by omega, by decide, by omega, by decide, by decide⟩
end Encl
namespace Go.Proofs.Ytilclpldfoifkaa
open Go.RowKit Encl

set_option maxRecDepth 100000 in
set_option maxHeartbeats 8000000 in
theorem rRootW_any (a b e0 : Int) (g : Nat) (w : World) (h : okS ⟨a, b⟩ = true) (h0 : 0 ≤ a) (hc : w.cell? ⟨g, 0, none⟩ = some (.int .i64 e0)) (hf : w.frozen? ⟨g, 0, none⟩ = false) :
    Calls Try.prog 72 #[.pointer (some ⟨g, 0, none⟩), .agg #[.int .i64 a, .int .i64 b]] w fun e w' => e = retS (rn e0 (.ok (rootS ⟨a, b⟩))).1 ∧ Wk g (rn e0 (.ok (rootS ⟨a, b⟩))).2 w.heap.size w w' := by
  have hg : g < w.heap.size := World.block_lt_of_cell? w _ hc
  have HOK := Lib.hid (rootS_ok h h0).1
  have HG : Hid (0 ≤ a ∧ a ≤ b ∧ b ≤ 1099511627776) := Lib.hid (by rw [okS_iff] at h; simp only at h; omega)
  obtain ⟨RT, hRT⟩ : ∃ RT, rtGo (a * 1073741824) 37 0 = RT := ⟨_, rfl⟩
  obtain ⟨RL, hRL⟩ : ∃ RL, rlGo (b * 1073741824) 37 0 = RL := ⟨_, rfl⟩
  have HS : Hid (rootS ⟨a, b⟩ = ⟨RT, if RL * RL < b * 1073741824 then RL + 1 else RL⟩) := Lib.hid (by
    have g := HG.out
    unfold rootS rtD
    simp only
    rw [hRT, ← rl_up (n := b * 1073741824) (by omega) (by omega), hRL])
  have HSI : Hid (inR (rootS ⟨a, b⟩) = .ok (rootS ⟨a, b⟩)) := Lib.hid (inR_ok HOK.out)
  rw [← HSI.out]
  obtain ⟨rs, re, hr⟩ : ∃ rs re, rn e0 (inR (rootS ⟨a, b⟩)) = (rs, re) := ⟨_, _, rfl⟩
  have HR := Lib.hid hr
  rw [hr]
  obtain ⟨p, q⟩ := rs
  clear hr HSI h h0
  have HRT := Lib.hid hRT
  have HRL := Lib.hid hRL
  clear hRT hRL
  go_enter Try.func72, Try.ntmps72
  go_wp2_with fail
  have hb0 : Below w.heap.size w ((w.alloc (Obj.cells #[.int .i64 a, .int .i64 b] 23)).alloc (Obj.cells #[.int .i64 0, .int .i64 0] 23)) := by go_grown
  have hc0 : ((w.alloc (Obj.cells #[.int .i64 a, .int .i64 b] 23)).alloc (Obj.cells #[.int .i64 0, .int .i64 0] 23)).cell? ⟨g, 0, none⟩ = some (.int .i64 e0) := (hb0.cell (p := ⟨g, 0, none⟩) hg).trans hc
  have hf0 : ((w.alloc (Obj.cells #[.int .i64 a, .int .i64 b] 23)).alloc (Obj.cells #[.int .i64 0, .int .i64 0] 23)).frozen? ⟨g, 0, none⟩ = false := (hb0.frozen (p := ⟨g, 0, none⟩) hg).trans hf
  have c0 : ((w.alloc (Obj.cells #[.int .i64 a, .int .i64 b] 23)).alloc (Obj.cells #[.int .i64 0, .int .i64 0] 23)).cell? ⟨w.heap.size, 0, none⟩ = some (.int .i64 a) := by go_cell
  have c1 : ((w.alloc (Obj.cells #[.int .i64 a, .int .i64 b] 23)).alloc (Obj.cells #[.int .i64 0, .int .i64 0] 23)).cell? ⟨w.heap.size, 1, none⟩ = some (.int .i64 b) := by go_cell
  have d0 : ((w.alloc (Obj.cells #[.int .i64 a, .int .i64 b] 23)).alloc (Obj.cells #[.int .i64 0, .int .i64 0] 23)).cell? ⟨w.heap.size + 1, 0, none⟩ = some (.int .i64 0) := by go_cell
  have f0 : ((w.alloc (Obj.cells #[.int .i64 a, .int .i64 b] 23)).alloc (Obj.cells #[.int .i64 0, .int .i64 0] 23)).frozen? ⟨w.heap.size + 1, 0, none⟩ = false := by go_cell
  have d1 : ((w.alloc (Obj.cells #[.int .i64 a, .int .i64 b] 23)).alloc (Obj.cells #[.int .i64 0, .int .i64 0] 23)).cell? ⟨w.heap.size + 1, 1, none⟩ = some (.int .i64 0) := by go_cell
  have f1 : ((w.alloc (Obj.cells #[.int .i64 a, .int .i64 b] 23)).alloc (Obj.cells #[.int .i64 0, .int .i64 0] 23)).frozen? ⟨w.heap.size + 1, 1, none⟩ = false := by go_cell
  have hsz : w.heap.size + 1 < ((w.alloc (Obj.cells #[.int .i64 a, .int .i64 b] 23)).alloc (Obj.cells #[.int .i64 0, .int .i64 0] 23)).heap.size := by simp
  generalize ((w.alloc (Obj.cells #[.int .i64 a, .int .i64 b] 23)).alloc (Obj.cells #[.int .i64 0, .int .i64 0] 23)) = W at *
  have hgW : g < W.heap.size := by omega
  have HD : Wk g e0 W.heap.size W W := ⟨rfl, rfl, rfl, Nat.le_refl _, fun _ _ _ => rfl, hc0, hf0⟩
  have HW0 := Lib.hid (Wk.of_below hb0 hc0 hf0)
  have G0 : Hid (∀ (e : Int) w', Wk g e W.heap.size W w' → w'.cell? ⟨w.heap.size, 0, none⟩ = some (.int .i64 a) ∧ w'.cell? ⟨w.heap.size, 1, none⟩ = some (.int .i64 b)) := Lib.hid (fun e w' hb => by
    exact ⟨(hb.cells.1 _ 0 (by omega) (by omega)).trans c0, (hb.cells.1 _ 1 (by omega) (by omega)).trans c1⟩)
  have G1 : Hid (∀ (e : Int) w', Wk g e W.heap.size W w' → w'.cell? ⟨w.heap.size + 1, 0, none⟩ = some (.int .i64 0) ∧ w'.cell? ⟨w.heap.size + 1, 1, none⟩ = some (.int .i64 0) ∧ w'.frozen? ⟨w.heap.size + 1, 0, none⟩ = false ∧ w'.frozen? ⟨w.heap.size + 1, 1, none⟩ = false) := Lib.hid (fun e w' hb => by
    exact ⟨(hb.cells.1 _ 0 (by omega) (by omega)).trans d0, (hb.cells.1 _ 1 (by omega) (by omega)).trans d1, (hb.cells.2 _ 0 (by omega) (by omega)).trans f0, (hb.cells.2 _ 1 (by omega) (by omega)).trans f1⟩)
  clear hb0 hc hf hc0 hf0 c0 c1 d0 d1 f0 f1
  go_loopw [5, 6, 7] (fun xv yv bv wr => ∃ (k : Nat) (x y bt : Int), xv = .int .i64 x ∧ yv = .int .i64 y ∧ bv = .int .i64 bt ∧ k ≤ 37 ∧ Hid (rootAt (a * 1073741824) (b * 1073741824) RT RL k x y bt) ∧ Wk g e0 W.heap.size W wr) (fun _ _ bv _ => (intOf bv).toNat)
  case atStart => exact ⟨37, 0, 0, 68719476736, rfl, rfl, rfl, by omega, Lib.hid (rootAt_start HRT.out HRL.out), HD⟩
  case round =>
    obtain ⟨k, x, y, bt, rfl, rfl, rfl, hk, HA, HDr⟩ := hrel
    have HAo := HA
    rcases k with _ | k
    · obtain ⟨r1, r2, r3, r4, r5, r6, r7⟩ := HA.out
      simp only [rtGo] at r1
      simp only [rlGo] at r2
      simp only [Int.pow_zero] at r4 r6 r7
      obtain rfl : bt = 0 := by omega
      have HX : Hid (x = RT ∧ y = RL) := Lib.hid ⟨r1, r2⟩
      have KY : Hid (∀ w1 : World, Calls Try.prog 111 #[.int .i64 y, .int .i64 y] w1 fun e w' => e = .returned (.int .i64 (fl y y 1073741824)) ∧ Below w1.heap.size w1 w') := Lib.hid (fun w1 => rTimesDown_any y y w1 (by omega) (by omega))
      have hyy : fl y y 1073741824 < b ↔ y * y < b * 1073741824 := fl_lt (by omega)
      obtain ⟨m, hm⟩ : ∃ m, fl y y 1073741824 = m := ⟨_, rfl⟩
      rw [hm] at KY hyy
      have wy : wrap64 (y + 1) = y + 1 := by simp only [wrap64]; omega
      have HQ : Hid (rootS ⟨a, b⟩ = ⟨x, if m < b then y + 1 else y⟩) := Lib.hid (by rw [HS.out, HX.out.1, HX.out.2]; congr 1; rw [← HX.out.2]; by_cases hh : m < b <;> simp [hh, hyy.1, (not_congr hyy).1] )
      clear r1 r2 r3 r4 r5 r6 r7 hm HAo
      go_upto_region 9 with fail
      have HD1 : Wk g e0 W.heap.size W wr.drew := HDr.then ((Below.refl _ _).drew.mono HDr.size) hgW
      refine wp_region_held_drew (S := fun w' => w'.cell? ⟨w.heap.size, 0, none⟩ = some (.int .i64 a) ∧ w'.cell? ⟨w.heap.size, 1, none⟩ = some (.int .i64 b)) (by kernel_rfl) (G0.out _ _ HD1) (fun hHeld => ?_)
      refine wpAnyH_take (i := 0) (oi := _) (v := ?_) rfl (by kernel_rfl) (by kernel_rfl) (by kernel_rfl) (fun _ _ _ h => h) (Or.inl ⟨by rfl, ?_⟩) (by assumption) ?_
      rotate_left
      · intro w hSw; obtain ⟨_, _⟩ := hSw; go_simp; (try with_reducible rfl)
      try change wpAnyH _ _ _ _ _ _ _ (Act.put _ (some 38) _) _
      try simp only [act_all]
      refine wpAnyH_take (i := 1) (oi := _) (v := ?_) rfl (by kernel_rfl) (by kernel_rfl) (by kernel_rfl) (fun _ _ _ h => h) (Or.inl ⟨by rfl, ?_⟩) (by assumption) ?_
      rotate_left
      · intro w hSw; obtain ⟨_, _⟩ := hSw; go_simp; (try with_reducible rfl)
      try change wpAnyH _ _ _ _ _ _ _ (Act.put _ (some 39) _) _
      try simp only [act_all]
      refine wpAnyH_take (i := 3) (oi := _) (v := ?_) rfl (by kernel_rfl) (by kernel_rfl) (by kernel_rfl) (fun _ _ _ h => h) (Or.inl ⟨by rfl, ?_⟩) (by assumption) ?_
      rotate_left
      · intro w hSw; obtain ⟨_, _⟩ := hSw; go_simp; (try with_reducible rfl)
      try change wpAnyH _ _ _ _ _ _ _ (Act.put _ (some 41) _) _
      try simp only [act_all]
      refine wpAnyH_take (i := 4) (oi := _) (v := ?_) rfl (by kernel_rfl) (by kernel_rfl) (by kernel_rfl) (fun _ _ _ h => h) (Or.inl ⟨by rfl, ?_⟩) (by assumption) ?_
      rotate_left
      · intro w hSw; obtain ⟨_, _⟩ := hSw; go_simp; (try with_reducible rfl)
      try change wpAnyH _ _ _ _ _ _ _ (Act.put _ (some 42) _) _
      try simp only [act_all]
      refine wpAnyH_ready (rs := [2]) (by kernel_rfl) (by simp) ?_
      refine AllReadyH.cons (o := _) rfl (fun K hK => ?_) AllReadyH.nil
      go_simp
      refine (KY.out _).mono ?_
      rintro e w2_ ⟨rfl, hb⟩
      have HD2 : Wk g e0 W.heap.size W w2_ := HD1.then (hb.mono HD1.size) hgW
      have hz2 := HD2.size
      have hq2 := hb.size
      (try simp at hq2)
      clear hb hHeld
      refine hK.out _ _ (G0.out _ _ HD2) (fun hHeld => ?_)
      clear hK K
      try simp only [act_all]
      refine wpAnyH_take (i := 5) (oi := _) (v := ?_) rfl (by kernel_rfl) (by kernel_rfl) (by kernel_rfl) (fun _ _ _ h => h) (Or.inl ⟨by rfl, ?_⟩) (by assumption) ?_
      rotate_left
      · intro w hSw; obtain ⟨_, _⟩ := hSw; go_simp; (try with_reducible rfl)
      try change wpAnyH _ _ _ _ _ _ _ (Act.put _ (some 43) _) _
      try simp only [act_all]
      refine wpAnyH_done (by kernel_rfl) ?_ _
      by_cases hh : m < b
      · have HQ2 : Hid (rootS ⟨a, b⟩ = ⟨x, y + 1⟩) := Lib.hid (by rw [HQ.out, if_pos hh])
        go_wp2_with fail
        refine (rSpan_any _ _ e0 g _ HD2.cell HD2.free).mono ?_
        rw [← HQ2.out, HR.out]
        rintro e wz ⟨he, hb⟩
        obtain rfl : e = .returned (.agg #[.int .i64 p, .int .i64 q]) := he
        have HDz := HD2.trans (hb.mono HD2.size)
        obtain ⟨_, _, _, _⟩ := G1.out _ _ HDz
        have sz := HDz.size
        have HWz := Lib.hid (HW0.out.trans (HDz.mono HW0.out.size))
        have DZ : Below w.heap.size wz wz := Below.refl _ _
        have lz : w.heap.size + 1 < wz.heap.size := by omega
        clear hb hHeld
        go_wp2_with fail
        refine bodyPost_ret (v := .agg #[.int .i64 p, .int .i64 q]) (by simp [results, Try.results72, go_sem, *]) rfl ⟨rfl, HWz.out.then (by go_grown) hg⟩
      · have HQ2 : Hid (rootS ⟨a, b⟩ = ⟨x, y⟩) := Lib.hid (by rw [HQ.out, if_neg hh])
        go_wp2_with fail
        refine (rSpan_any _ _ e0 g _ HD2.cell HD2.free).mono ?_
        rw [← HQ2.out, HR.out]
        rintro e wz ⟨he, hb⟩
        obtain rfl : e = .returned (.agg #[.int .i64 p, .int .i64 q]) := he
        have HDz := HD2.trans (hb.mono HD2.size)
        obtain ⟨_, _, _, _⟩ := G1.out _ _ HDz
        have sz := HDz.size
        have HWz := Lib.hid (HW0.out.trans (HDz.mono HW0.out.size))
        have DZ : Below w.heap.size wz wz := Below.refl _ _
        have lz : w.heap.size + 1 < wz.heap.size := by omega
        clear hb hHeld
        go_wp2_with fail
        refine bodyPost_ret (v := .agg #[.int .i64 p, .int .i64 q]) (by simp [results, Try.results72, go_sem, *]) rfl ⟨rfl, HWz.out.then (by go_grown) hg⟩
    · obtain ⟨r1, r2, r3, r4, r5, r6, r7⟩ := HA.out
      rw [pow2_half] at r7
      have he : (2 : Int) ^ (k + 1) = 2 ^ k + 2 ^ k := by rw [Int.pow_succ]; omega
      have hp : (0 : Int) < 2 ^ k := Int.pow_pos (by omega)
      rw [he] at r4 r6
      have HNX := fun x' y' => rootAt_next (x' := x') (y' := y') HA.out
      have hpk : (2 : Int) ^ k / 2 = (2 : Int) ^ k / 2 := rfl
      obtain ⟨B, hB⟩ : ∃ B, (2 : Int) ^ k = B := ⟨_, rfl⟩
      rw [hB] at HNX r4 r6 r7 hp
      have r8 := r7.symm
      subst r8
      have KX : Hid (∀ w1 : World, Calls Try.prog 110 #[.int .i64 (IntKind.i64.wrap (x + B)), .int .i64 (IntKind.i64.wrap (x + B))] w1 fun e w' => e = .returned (.int .i64 (ce (x + B) (x + B) 1073741824)) ∧ Below w1.heap.size w1 w') := Lib.hid (fun w1 => by rw [show IntKind.i64.wrap (x + B) = x + B from by go_arith]; exact rTimesUp_any (x + B) (x + B) w1 (by omega) (by omega))
      have KY : Hid (∀ w1 : World, Calls Try.prog 111 #[.int .i64 (IntKind.i64.wrap (y + B)), .int .i64 (IntKind.i64.wrap (y + B))] w1 fun e w' => e = .returned (.int .i64 (fl (y + B) (y + B) 1073741824)) ∧ Below w1.heap.size w1 w') := Lib.hid (fun w1 => by rw [show IntKind.i64.wrap (y + B) = y + B from by go_arith]; exact rTimesDown_any (y + B) (y + B) w1 (by omega) (by omega))
      have hxx : ce (x + B) (x + B) 1073741824 ≤ a ↔ (x + B) * (x + B) ≤ a * 1073741824 := ce_le (by omega)
      have hyy : fl (y + B) (y + B) 1073741824 < b ↔ (y + B) * (y + B) < b * 1073741824 := fl_lt (by omega)
      obtain ⟨m, hm⟩ : ∃ m, ce (x + B) (x + B) 1073741824 = m := ⟨_, rfl⟩
      obtain ⟨n, hn⟩ : ∃ n, fl (y + B) (y + B) 1073741824 = n := ⟨_, rfl⟩
      rw [hm] at KX hxx
      rw [hn] at KY hyy
      have HXX := Lib.hid hxx
      have HYY := Lib.hid hyy
      have HNXT := Lib.hid HNX
      have wx : wrap64 (x + B) = x + B := by simp only [wrap64]; omega
      have wy : wrap64 (y + B) = y + B := by simp only [wrap64]; omega
      have wh : B.tdiv 2 = B / 2 := Int.tdiv_eq_ediv_of_nonneg (by omega)
      have wh2 : wrap64 (B / 2) = B / 2 := by simp only [wrap64]; omega
      have hmeas : B / 2 < B ∧ 0 ≤ B / 2 := by omega
      clear r1 r2 r3 r4 r5 r6 he hm hn hxx hyy HNX hB hpk HAo HA
      by_cases hx : m ≤ a
      · go_upto_region 5 with fail
        have HD3 : Wk g e0 W.heap.size W wr.drew := HDr.then ((Below.refl _ _).drew.mono HDr.size) hgW
        refine wp_region_held_drew (S := fun w' => w'.cell? ⟨w.heap.size, 0, none⟩ = some (.int .i64 a) ∧ w'.cell? ⟨w.heap.size, 1, none⟩ = some (.int .i64 b)) (by kernel_rfl) (G0.out _ _ HD3) (fun hHeld => ?_)
        refine wpAnyH_take (i := 0) (oi := _) (v := ?_) rfl (by kernel_rfl) (by kernel_rfl) (by kernel_rfl) (fun _ _ _ h => h) (Or.inl ⟨by rfl, ?_⟩) (by assumption) ?_
        rotate_left
        · intro w hSw; obtain ⟨_, _⟩ := hSw; go_simp; (try with_reducible rfl)
        try change wpAnyH _ _ _ _ _ _ _ (Act.put _ (some 12) _) _
        try simp only [act_all]
        refine wpAnyH_take (i := 1) (oi := _) (v := ?_) rfl (by kernel_rfl) (by kernel_rfl) (by kernel_rfl) (fun _ _ _ h => h) (Or.inl ⟨by rfl, ?_⟩) (by assumption) ?_
        rotate_left
        · intro w hSw; obtain ⟨_, _⟩ := hSw; go_simp; (try with_reducible rfl)
        try change wpAnyH _ _ _ _ _ _ _ (Act.put _ (some 13) _) _
        try simp only [act_all]
        refine wpAnyH_take (i := 2) (oi := _) (v := ?_) rfl (by kernel_rfl) (by kernel_rfl) (by kernel_rfl) (fun _ _ _ h => h) (Or.inl ⟨by rfl, ?_⟩) (by assumption) ?_
        rotate_left
        · intro w hSw; obtain ⟨_, _⟩ := hSw; go_simp; (try with_reducible rfl)
        try change wpAnyH _ _ _ _ _ _ _ (Act.put _ (some 14) _) _
        try simp only [act_all]
        refine wpAnyH_take (i := 3) (oi := _) (v := ?_) rfl (by kernel_rfl) (by kernel_rfl) (by kernel_rfl) (fun _ _ _ h => h) (Or.inl ⟨by rfl, ?_⟩) (by assumption) ?_
        rotate_left
        · intro w hSw; obtain ⟨_, _⟩ := hSw; go_simp; (try with_reducible rfl)
        try change wpAnyH _ _ _ _ _ _ _ (Act.put _ (some 15) _) _
        try simp only [act_all]
        refine wpAnyH_take (i := 4) (oi := _) (v := ?_) rfl (by kernel_rfl) (by kernel_rfl) (by kernel_rfl) (fun _ _ _ h => h) (Or.inl ⟨by rfl, ?_⟩) (by assumption) ?_
        rotate_left
        · intro w hSw; obtain ⟨_, _⟩ := hSw; go_simp; (try with_reducible rfl)
        try change wpAnyH _ _ _ _ _ _ _ (Act.put _ (some 16) _) _
        try simp only [act_all]
        refine wpAnyH_take (i := 5) (oi := _) (v := ?_) rfl (by kernel_rfl) (by kernel_rfl) (by kernel_rfl) (fun _ _ _ h => h) (Or.inl ⟨by rfl, ?_⟩) (by assumption) ?_
        rotate_left
        · intro w hSw; obtain ⟨_, _⟩ := hSw; go_simp; (try with_reducible rfl)
        try change wpAnyH _ _ _ _ _ _ _ (Act.put _ (some 17) _) _
        try simp only [act_all]
        refine wpAnyH_take (i := 7) (oi := _) (v := ?_) rfl (by kernel_rfl) (by kernel_rfl) (by kernel_rfl) (fun _ _ _ h => h) (Or.inl ⟨by rfl, ?_⟩) (by assumption) ?_
        rotate_left
        · intro w hSw; obtain ⟨_, _⟩ := hSw; go_simp; (try with_reducible rfl)
        try change wpAnyH _ _ _ _ _ _ _ (Act.put _ (some 19) _) _
        try simp only [act_all]
        refine wpAnyH_take (i := 8) (oi := _) (v := ?_) rfl (by kernel_rfl) (by kernel_rfl) (by kernel_rfl) (fun _ _ _ h => h) (Or.inl ⟨by rfl, ?_⟩) (by assumption) ?_
        rotate_left
        · intro w hSw; obtain ⟨_, _⟩ := hSw; go_simp; (try with_reducible rfl)
        try change wpAnyH _ _ _ _ _ _ _ (Act.put _ (some 20) _) _
        try simp only [act_all]
        refine wpAnyH_ready (rs := [6]) (by kernel_rfl) (by simp) ?_
        refine AllReadyH.cons (o := _) rfl (fun K hK => ?_) AllReadyH.nil
        go_simp
        refine (KX.out _).mono ?_
        rintro e w4_ ⟨rfl, hb⟩
        have HD4 : Wk g e0 W.heap.size W w4_ := HD3.then (hb.mono HD3.size) hgW
        have hz4 := HD4.size
        have hq4 := hb.size
        (try simp at hq4)
        clear hb hHeld
        refine hK.out _ _ (G0.out _ _ HD4) (fun hHeld => ?_)
        clear hK K
        try simp only [act_all]
        refine wpAnyH_take (i := 9) (oi := _) (v := ?_) rfl (by kernel_rfl) (by kernel_rfl) (by kernel_rfl) (fun _ _ _ h => h) (Or.inl ⟨by rfl, ?_⟩) (by assumption) ?_
        rotate_left
        · intro w hSw; obtain ⟨_, _⟩ := hSw; go_simp; (try with_reducible rfl)
        try change wpAnyH _ _ _ _ _ _ _ (Act.put _ (some 21) _) _
        try simp only [act_all]
        refine wpAnyH_done (by kernel_rfl) ?_ _
        by_cases hy : n < b
        · go_upto_region 7 with fail
          clear hHeld
          have HD5 : Wk g e0 W.heap.size W w4_.drew := HD4.then ((Below.refl _ _).drew.mono HD4.size) hgW
          refine wp_region_held_drew (S := fun w' => w'.cell? ⟨w.heap.size, 0, none⟩ = some (.int .i64 a) ∧ w'.cell? ⟨w.heap.size, 1, none⟩ = some (.int .i64 b)) (by kernel_rfl) (G0.out _ _ HD5) (fun hHeld => ?_)
          refine wpAnyH_take (i := 0) (oi := _) (v := ?_) rfl (by kernel_rfl) (by kernel_rfl) (by kernel_rfl) (fun _ _ _ h => h) (Or.inl ⟨by rfl, ?_⟩) (by assumption) ?_
          rotate_left
          · intro w hSw; obtain ⟨_, _⟩ := hSw; go_simp; (try with_reducible rfl)
          try change wpAnyH _ _ _ _ _ _ _ (Act.put _ (some 25) _) _
          try simp only [act_all]
          refine wpAnyH_take (i := 1) (oi := _) (v := ?_) rfl (by kernel_rfl) (by kernel_rfl) (by kernel_rfl) (fun _ _ _ h => h) (Or.inl ⟨by rfl, ?_⟩) (by assumption) ?_
          rotate_left
          · intro w hSw; obtain ⟨_, _⟩ := hSw; go_simp; (try with_reducible rfl)
          try change wpAnyH _ _ _ _ _ _ _ (Act.put _ (some 26) _) _
          try simp only [act_all]
          refine wpAnyH_take (i := 2) (oi := _) (v := ?_) rfl (by kernel_rfl) (by kernel_rfl) (by kernel_rfl) (fun _ _ _ h => h) (Or.inl ⟨by rfl, ?_⟩) (by assumption) ?_
          rotate_left
          · intro w hSw; obtain ⟨_, _⟩ := hSw; go_simp; (try with_reducible rfl)
          try change wpAnyH _ _ _ _ _ _ _ (Act.put _ (some 27) _) _
          try simp only [act_all]
          refine wpAnyH_take (i := 3) (oi := _) (v := ?_) rfl (by kernel_rfl) (by kernel_rfl) (by kernel_rfl) (fun _ _ _ h => h) (Or.inl ⟨by rfl, ?_⟩) (by assumption) ?_
          rotate_left
          · intro w hSw; obtain ⟨_, _⟩ := hSw; go_simp; (try with_reducible rfl)
          try change wpAnyH _ _ _ _ _ _ _ (Act.put _ (some 28) _) _
          try simp only [act_all]
          refine wpAnyH_take (i := 4) (oi := _) (v := ?_) rfl (by kernel_rfl) (by kernel_rfl) (by kernel_rfl) (fun _ _ _ h => h) (Or.inl ⟨by rfl, ?_⟩) (by assumption) ?_
          rotate_left
          · intro w hSw; obtain ⟨_, _⟩ := hSw; go_simp; (try with_reducible rfl)
          try change wpAnyH _ _ _ _ _ _ _ (Act.put _ (some 29) _) _
          try simp only [act_all]
          refine wpAnyH_take (i := 5) (oi := _) (v := ?_) rfl (by kernel_rfl) (by kernel_rfl) (by kernel_rfl) (fun _ _ _ h => h) (Or.inl ⟨by rfl, ?_⟩) (by assumption) ?_
          rotate_left
          · intro w hSw; obtain ⟨_, _⟩ := hSw; go_simp; (try with_reducible rfl)
          try change wpAnyH _ _ _ _ _ _ _ (Act.put _ (some 30) _) _
          try simp only [act_all]
          refine wpAnyH_take (i := 7) (oi := _) (v := ?_) rfl (by kernel_rfl) (by kernel_rfl) (by kernel_rfl) (fun _ _ _ h => h) (Or.inl ⟨by rfl, ?_⟩) (by assumption) ?_
          rotate_left
          · intro w hSw; obtain ⟨_, _⟩ := hSw; go_simp; (try with_reducible rfl)
          try change wpAnyH _ _ _ _ _ _ _ (Act.put _ (some 32) _) _
          try simp only [act_all]
          refine wpAnyH_take (i := 8) (oi := _) (v := ?_) rfl (by kernel_rfl) (by kernel_rfl) (by kernel_rfl) (fun _ _ _ h => h) (Or.inl ⟨by rfl, ?_⟩) (by assumption) ?_
          rotate_left
          · intro w hSw; obtain ⟨_, _⟩ := hSw; go_simp; (try with_reducible rfl)
          try change wpAnyH _ _ _ _ _ _ _ (Act.put _ (some 33) _) _
          try simp only [act_all]
          refine wpAnyH_ready (rs := [6]) (by kernel_rfl) (by simp) ?_
          refine AllReadyH.cons (o := _) rfl (fun K hK => ?_) AllReadyH.nil
          go_simp
          refine (KY.out _).mono ?_
          rintro e w6_ ⟨rfl, hb⟩
          have HD6 : Wk g e0 W.heap.size W w6_ := HD5.then (hb.mono HD5.size) hgW
          have hz6 := HD6.size
          have hq6 := hb.size
          (try simp at hq6)
          clear hb hHeld
          refine hK.out _ _ (G0.out _ _ HD6) (fun hHeld => ?_)
          clear hK K
          try simp only [act_all]
          refine wpAnyH_take (i := 9) (oi := _) (v := ?_) rfl (by kernel_rfl) (by kernel_rfl) (by kernel_rfl) (fun _ _ _ h => h) (Or.inl ⟨by rfl, ?_⟩) (by assumption) ?_
          rotate_left
          · intro w hSw; obtain ⟨_, _⟩ := hSw; go_simp; (try with_reducible rfl)
          try change wpAnyH _ _ _ _ _ _ _ (Act.put _ (some 34) _) _
          try simp only [act_all]
          refine wpAnyH_done (by kernel_rfl) ?_ _
          go_wp2_with fail
          go_roundw
          case rel => exact ⟨k, x + B, y + B, B / 2, by first | rfl | rw [wx] | go_num, by first | rfl | rw [wy] | go_num, by first | rfl | rw [wh2] | go_num, by omega, Lib.hid (HNXT.out (x + B) (y + B) (by rw [if_pos (HXX.out.1 hx)]) (by rw [if_pos (HYY.out.1 hy)])), HD6⟩
          case measure => simp [intOf]; omega
        · go_upto_region 7 with fail
          clear hHeld
          have HD7 : Wk g e0 W.heap.size W w4_.drew := HD4.then ((Below.refl _ _).drew.mono HD4.size) hgW
          refine wp_region_held_drew (S := fun w' => w'.cell? ⟨w.heap.size, 0, none⟩ = some (.int .i64 a) ∧ w'.cell? ⟨w.heap.size, 1, none⟩ = some (.int .i64 b)) (by kernel_rfl) (G0.out _ _ HD7) (fun hHeld => ?_)
          refine wpAnyH_take (i := 0) (oi := _) (v := ?_) rfl (by kernel_rfl) (by kernel_rfl) (by kernel_rfl) (fun _ _ _ h => h) (Or.inl ⟨by rfl, ?_⟩) (by assumption) ?_
          rotate_left
          · intro w hSw; obtain ⟨_, _⟩ := hSw; go_simp; (try with_reducible rfl)
          try change wpAnyH _ _ _ _ _ _ _ (Act.put _ (some 25) _) _
          try simp only [act_all]
          refine wpAnyH_take (i := 1) (oi := _) (v := ?_) rfl (by kernel_rfl) (by kernel_rfl) (by kernel_rfl) (fun _ _ _ h => h) (Or.inl ⟨by rfl, ?_⟩) (by assumption) ?_
          rotate_left
          · intro w hSw; obtain ⟨_, _⟩ := hSw; go_simp; (try with_reducible rfl)
          try change wpAnyH _ _ _ _ _ _ _ (Act.put _ (some 26) _) _
          try simp only [act_all]
          refine wpAnyH_take (i := 2) (oi := _) (v := ?_) rfl (by kernel_rfl) (by kernel_rfl) (by kernel_rfl) (fun _ _ _ h => h) (Or.inl ⟨by rfl, ?_⟩) (by assumption) ?_
          rotate_left
          · intro w hSw; obtain ⟨_, _⟩ := hSw; go_simp; (try with_reducible rfl)
          try change wpAnyH _ _ _ _ _ _ _ (Act.put _ (some 27) _) _
          try simp only [act_all]
          refine wpAnyH_take (i := 3) (oi := _) (v := ?_) rfl (by kernel_rfl) (by kernel_rfl) (by kernel_rfl) (fun _ _ _ h => h) (Or.inl ⟨by rfl, ?_⟩) (by assumption) ?_
          rotate_left
          · intro w hSw; obtain ⟨_, _⟩ := hSw; go_simp; (try with_reducible rfl)
          try change wpAnyH _ _ _ _ _ _ _ (Act.put _ (some 28) _) _
          try simp only [act_all]
          refine wpAnyH_take (i := 4) (oi := _) (v := ?_) rfl (by kernel_rfl) (by kernel_rfl) (by kernel_rfl) (fun _ _ _ h => h) (Or.inl ⟨by rfl, ?_⟩) (by assumption) ?_
          rotate_left
          · intro w hSw; obtain ⟨_, _⟩ := hSw; go_simp; (try with_reducible rfl)
          try change wpAnyH _ _ _ _ _ _ _ (Act.put _ (some 29) _) _
          try simp only [act_all]
          refine wpAnyH_take (i := 5) (oi := _) (v := ?_) rfl (by kernel_rfl) (by kernel_rfl) (by kernel_rfl) (fun _ _ _ h => h) (Or.inl ⟨by rfl, ?_⟩) (by assumption) ?_
          rotate_left
          · intro w hSw; obtain ⟨_, _⟩ := hSw; go_simp; (try with_reducible rfl)
          try change wpAnyH _ _ _ _ _ _ _ (Act.put _ (some 30) _) _
          try simp only [act_all]
          refine wpAnyH_take (i := 7) (oi := _) (v := ?_) rfl (by kernel_rfl) (by kernel_rfl) (by kernel_rfl) (fun _ _ _ h => h) (Or.inl ⟨by rfl, ?_⟩) (by assumption) ?_
          rotate_left
          · intro w hSw; obtain ⟨_, _⟩ := hSw; go_simp; (try with_reducible rfl)
          try change wpAnyH _ _ _ _ _ _ _ (Act.put _ (some 32) _) _
          try simp only [act_all]
          refine wpAnyH_take (i := 8) (oi := _) (v := ?_) rfl (by kernel_rfl) (by kernel_rfl) (by kernel_rfl) (fun _ _ _ h => h) (Or.inl ⟨by rfl, ?_⟩) (by assumption) ?_
          rotate_left
          · intro w hSw; obtain ⟨_, _⟩ := hSw; go_simp; (try with_reducible rfl)
          try change wpAnyH _ _ _ _ _ _ _ (Act.put _ (some 33) _) _
          try simp only [act_all]
          refine wpAnyH_ready (rs := [6]) (by kernel_rfl) (by simp) ?_
          refine AllReadyH.cons (o := _) rfl (fun K hK => ?_) AllReadyH.nil
          go_simp
          refine (KY.out _).mono ?_
          rintro e w8_ ⟨rfl, hb⟩
          have HD8 : Wk g e0 W.heap.size W w8_ := HD7.then (hb.mono HD7.size) hgW
          have hz8 := HD8.size
          have hq8 := hb.size
          (try simp at hq8)
          clear hb hHeld
          refine hK.out _ _ (G0.out _ _ HD8) (fun hHeld => ?_)
          clear hK K
          try simp only [act_all]
          refine wpAnyH_take (i := 9) (oi := _) (v := ?_) rfl (by kernel_rfl) (by kernel_rfl) (by kernel_rfl) (fun _ _ _ h => h) (Or.inl ⟨by rfl, ?_⟩) (by assumption) ?_
          rotate_left
          · intro w hSw; obtain ⟨_, _⟩ := hSw; go_simp; (try with_reducible rfl)
          try change wpAnyH _ _ _ _ _ _ _ (Act.put _ (some 34) _) _
          try simp only [act_all]
          refine wpAnyH_done (by kernel_rfl) ?_ _
          go_wp2_with fail
          go_roundw
          case rel => exact ⟨k, x + B, y, B / 2, by first | rfl | rw [wx] | go_num, by first | rfl | rw [wy] | go_num, by first | rfl | rw [wh2] | go_num, by omega, Lib.hid (HNXT.out (x + B) (y) (by rw [if_pos (HXX.out.1 hx)]) (by rw [if_neg (fun hh => hy (HYY.out.2 hh))])), HD8⟩
          case measure => simp [intOf]; omega
      · go_upto_region 5 with fail
        have HD9 : Wk g e0 W.heap.size W wr.drew := HDr.then ((Below.refl _ _).drew.mono HDr.size) hgW
        refine wp_region_held_drew (S := fun w' => w'.cell? ⟨w.heap.size, 0, none⟩ = some (.int .i64 a) ∧ w'.cell? ⟨w.heap.size, 1, none⟩ = some (.int .i64 b)) (by kernel_rfl) (G0.out _ _ HD9) (fun hHeld => ?_)
        refine wpAnyH_take (i := 0) (oi := _) (v := ?_) rfl (by kernel_rfl) (by kernel_rfl) (by kernel_rfl) (fun _ _ _ h => h) (Or.inl ⟨by rfl, ?_⟩) (by assumption) ?_
        rotate_left
        · intro w hSw; obtain ⟨_, _⟩ := hSw; go_simp; (try with_reducible rfl)
        try change wpAnyH _ _ _ _ _ _ _ (Act.put _ (some 12) _) _
        try simp only [act_all]
        refine wpAnyH_take (i := 1) (oi := _) (v := ?_) rfl (by kernel_rfl) (by kernel_rfl) (by kernel_rfl) (fun _ _ _ h => h) (Or.inl ⟨by rfl, ?_⟩) (by assumption) ?_
        rotate_left
        · intro w hSw; obtain ⟨_, _⟩ := hSw; go_simp; (try with_reducible rfl)
        try change wpAnyH _ _ _ _ _ _ _ (Act.put _ (some 13) _) _
        try simp only [act_all]
        refine wpAnyH_take (i := 2) (oi := _) (v := ?_) rfl (by kernel_rfl) (by kernel_rfl) (by kernel_rfl) (fun _ _ _ h => h) (Or.inl ⟨by rfl, ?_⟩) (by assumption) ?_
        rotate_left
        · intro w hSw; obtain ⟨_, _⟩ := hSw; go_simp; (try with_reducible rfl)
        try change wpAnyH _ _ _ _ _ _ _ (Act.put _ (some 14) _) _
        try simp only [act_all]
        refine wpAnyH_take (i := 3) (oi := _) (v := ?_) rfl (by kernel_rfl) (by kernel_rfl) (by kernel_rfl) (fun _ _ _ h => h) (Or.inl ⟨by rfl, ?_⟩) (by assumption) ?_
        rotate_left
        · intro w hSw; obtain ⟨_, _⟩ := hSw; go_simp; (try with_reducible rfl)
        try change wpAnyH _ _ _ _ _ _ _ (Act.put _ (some 15) _) _
        try simp only [act_all]
        refine wpAnyH_take (i := 4) (oi := _) (v := ?_) rfl (by kernel_rfl) (by kernel_rfl) (by kernel_rfl) (fun _ _ _ h => h) (Or.inl ⟨by rfl, ?_⟩) (by assumption) ?_
        rotate_left
        · intro w hSw; obtain ⟨_, _⟩ := hSw; go_simp; (try with_reducible rfl)
        try change wpAnyH _ _ _ _ _ _ _ (Act.put _ (some 16) _) _
        try simp only [act_all]
        refine wpAnyH_take (i := 5) (oi := _) (v := ?_) rfl (by kernel_rfl) (by kernel_rfl) (by kernel_rfl) (fun _ _ _ h => h) (Or.inl ⟨by rfl, ?_⟩) (by assumption) ?_
        rotate_left
        · intro w hSw; obtain ⟨_, _⟩ := hSw; go_simp; (try with_reducible rfl)
        try change wpAnyH _ _ _ _ _ _ _ (Act.put _ (some 17) _) _
        try simp only [act_all]
        refine wpAnyH_take (i := 7) (oi := _) (v := ?_) rfl (by kernel_rfl) (by kernel_rfl) (by kernel_rfl) (fun _ _ _ h => h) (Or.inl ⟨by rfl, ?_⟩) (by assumption) ?_
        rotate_left
        · intro w hSw; obtain ⟨_, _⟩ := hSw; go_simp; (try with_reducible rfl)
        try change wpAnyH _ _ _ _ _ _ _ (Act.put _ (some 19) _) _
        try simp only [act_all]
        refine wpAnyH_take (i := 8) (oi := _) (v := ?_) rfl (by kernel_rfl) (by kernel_rfl) (by kernel_rfl) (fun _ _ _ h => h) (Or.inl ⟨by rfl, ?_⟩) (by assumption) ?_
        rotate_left
        · intro w hSw; obtain ⟨_, _⟩ := hSw; go_simp; (try with_reducible rfl)
        try change wpAnyH _ _ _ _ _ _ _ (Act.put _ (some 20) _) _
        try simp only [act_all]
        refine wpAnyH_ready (rs := [6]) (by kernel_rfl) (by simp) ?_
        refine AllReadyH.cons (o := _) rfl (fun K hK => ?_) AllReadyH.nil
        go_simp
        refine (KX.out _).mono ?_
        rintro e w10_ ⟨rfl, hb⟩
        have HD10 : Wk g e0 W.heap.size W w10_ := HD9.then (hb.mono HD9.size) hgW
        have hz10 := HD10.size
        have hq10 := hb.size
        (try simp at hq10)
        clear hb hHeld
        refine hK.out _ _ (G0.out _ _ HD10) (fun hHeld => ?_)
        clear hK K
        try simp only [act_all]
        refine wpAnyH_take (i := 9) (oi := _) (v := ?_) rfl (by kernel_rfl) (by kernel_rfl) (by kernel_rfl) (fun _ _ _ h => h) (Or.inl ⟨by rfl, ?_⟩) (by assumption) ?_
        rotate_left
        · intro w hSw; obtain ⟨_, _⟩ := hSw; go_simp; (try with_reducible rfl)
        try change wpAnyH _ _ _ _ _ _ _ (Act.put _ (some 21) _) _
        try simp only [act_all]
        refine wpAnyH_done (by kernel_rfl) ?_ _
        by_cases hy : n < b
        · go_upto_region 7 with fail
          clear hHeld
          have HD11 : Wk g e0 W.heap.size W w10_.drew := HD10.then ((Below.refl _ _).drew.mono HD10.size) hgW
          refine wp_region_held_drew (S := fun w' => w'.cell? ⟨w.heap.size, 0, none⟩ = some (.int .i64 a) ∧ w'.cell? ⟨w.heap.size, 1, none⟩ = some (.int .i64 b)) (by kernel_rfl) (G0.out _ _ HD11) (fun hHeld => ?_)
          refine wpAnyH_take (i := 0) (oi := _) (v := ?_) rfl (by kernel_rfl) (by kernel_rfl) (by kernel_rfl) (fun _ _ _ h => h) (Or.inl ⟨by rfl, ?_⟩) (by assumption) ?_
          rotate_left
          · intro w hSw; obtain ⟨_, _⟩ := hSw; go_simp; (try with_reducible rfl)
          try change wpAnyH _ _ _ _ _ _ _ (Act.put _ (some 25) _) _
          try simp only [act_all]
          refine wpAnyH_take (i := 1) (oi := _) (v := ?_) rfl (by kernel_rfl) (by kernel_rfl) (by kernel_rfl) (fun _ _ _ h => h) (Or.inl ⟨by rfl, ?_⟩) (by assumption) ?_
          rotate_left
          · intro w hSw; obtain ⟨_, _⟩ := hSw; go_simp; (try with_reducible rfl)
          try change wpAnyH _ _ _ _ _ _ _ (Act.put _ (some 26) _) _
          try simp only [act_all]
          refine wpAnyH_take (i := 2) (oi := _) (v := ?_) rfl (by kernel_rfl) (by kernel_rfl) (by kernel_rfl) (fun _ _ _ h => h) (Or.inl ⟨by rfl, ?_⟩) (by assumption) ?_
          rotate_left
          · intro w hSw; obtain ⟨_, _⟩ := hSw; go_simp; (try with_reducible rfl)
          try change wpAnyH _ _ _ _ _ _ _ (Act.put _ (some 27) _) _
          try simp only [act_all]
          refine wpAnyH_take (i := 3) (oi := _) (v := ?_) rfl (by kernel_rfl) (by kernel_rfl) (by kernel_rfl) (fun _ _ _ h => h) (Or.inl ⟨by rfl, ?_⟩) (by assumption) ?_
          rotate_left
          · intro w hSw; obtain ⟨_, _⟩ := hSw; go_simp; (try with_reducible rfl)
          try change wpAnyH _ _ _ _ _ _ _ (Act.put _ (some 28) _) _
          try simp only [act_all]
          refine wpAnyH_take (i := 4) (oi := _) (v := ?_) rfl (by kernel_rfl) (by kernel_rfl) (by kernel_rfl) (fun _ _ _ h => h) (Or.inl ⟨by rfl, ?_⟩) (by assumption) ?_
          rotate_left
          · intro w hSw; obtain ⟨_, _⟩ := hSw; go_simp; (try with_reducible rfl)
          try change wpAnyH _ _ _ _ _ _ _ (Act.put _ (some 29) _) _
          try simp only [act_all]
          refine wpAnyH_take (i := 5) (oi := _) (v := ?_) rfl (by kernel_rfl) (by kernel_rfl) (by kernel_rfl) (fun _ _ _ h => h) (Or.inl ⟨by rfl, ?_⟩) (by assumption) ?_
          rotate_left
          · intro w hSw; obtain ⟨_, _⟩ := hSw; go_simp; (try with_reducible rfl)
          try change wpAnyH _ _ _ _ _ _ _ (Act.put _ (some 30) _) _
          try simp only [act_all]
          refine wpAnyH_take (i := 7) (oi := _) (v := ?_) rfl (by kernel_rfl) (by kernel_rfl) (by kernel_rfl) (fun _ _ _ h => h) (Or.inl ⟨by rfl, ?_⟩) (by assumption) ?_
          rotate_left
          · intro w hSw; obtain ⟨_, _⟩ := hSw; go_simp; (try with_reducible rfl)
          try change wpAnyH _ _ _ _ _ _ _ (Act.put _ (some 32) _) _
          try simp only [act_all]
          refine wpAnyH_take (i := 8) (oi := _) (v := ?_) rfl (by kernel_rfl) (by kernel_rfl) (by kernel_rfl) (fun _ _ _ h => h) (Or.inl ⟨by rfl, ?_⟩) (by assumption) ?_
          rotate_left
          · intro w hSw; obtain ⟨_, _⟩ := hSw; go_simp; (try with_reducible rfl)
          try change wpAnyH _ _ _ _ _ _ _ (Act.put _ (some 33) _) _
          try simp only [act_all]
          refine wpAnyH_ready (rs := [6]) (by kernel_rfl) (by simp) ?_
          refine AllReadyH.cons (o := _) rfl (fun K hK => ?_) AllReadyH.nil
          go_simp
          refine (KY.out _).mono ?_
          rintro e w12_ ⟨rfl, hb⟩
          have HD12 : Wk g e0 W.heap.size W w12_ := HD11.then (hb.mono HD11.size) hgW
          have hz12 := HD12.size
          have hq12 := hb.size
          (try simp at hq12)
          clear hb hHeld
          refine hK.out _ _ (G0.out _ _ HD12) (fun hHeld => ?_)
          clear hK K
          try simp only [act_all]
          refine wpAnyH_take (i := 9) (oi := _) (v := ?_) rfl (by kernel_rfl) (by kernel_rfl) (by kernel_rfl) (fun _ _ _ h => h) (Or.inl ⟨by rfl, ?_⟩) (by assumption) ?_
          rotate_left
          · intro w hSw; obtain ⟨_, _⟩ := hSw; go_simp; (try with_reducible rfl)
          try change wpAnyH _ _ _ _ _ _ _ (Act.put _ (some 34) _) _
          try simp only [act_all]
          refine wpAnyH_done (by kernel_rfl) ?_ _
          go_wp2_with fail
          go_roundw
          case rel => exact ⟨k, x, y + B, B / 2, by first | rfl | rw [wx] | go_num, by first | rfl | rw [wy] | go_num, by first | rfl | rw [wh2] | go_num, by omega, Lib.hid (HNXT.out (x) (y + B) (by rw [if_neg (fun hh => hx (HXX.out.2 hh))]) (by rw [if_pos (HYY.out.1 hy)])), HD12⟩
          case measure => simp [intOf]; omega
        · go_upto_region 7 with fail
          clear hHeld
          have HD13 : Wk g e0 W.heap.size W w10_.drew := HD10.then ((Below.refl _ _).drew.mono HD10.size) hgW
          refine wp_region_held_drew (S := fun w' => w'.cell? ⟨w.heap.size, 0, none⟩ = some (.int .i64 a) ∧ w'.cell? ⟨w.heap.size, 1, none⟩ = some (.int .i64 b)) (by kernel_rfl) (G0.out _ _ HD13) (fun hHeld => ?_)
          refine wpAnyH_take (i := 0) (oi := _) (v := ?_) rfl (by kernel_rfl) (by kernel_rfl) (by kernel_rfl) (fun _ _ _ h => h) (Or.inl ⟨by rfl, ?_⟩) (by assumption) ?_
          rotate_left
          · intro w hSw; obtain ⟨_, _⟩ := hSw; go_simp; (try with_reducible rfl)
          try change wpAnyH _ _ _ _ _ _ _ (Act.put _ (some 25) _) _
          try simp only [act_all]
          refine wpAnyH_take (i := 1) (oi := _) (v := ?_) rfl (by kernel_rfl) (by kernel_rfl) (by kernel_rfl) (fun _ _ _ h => h) (Or.inl ⟨by rfl, ?_⟩) (by assumption) ?_
          rotate_left
          · intro w hSw; obtain ⟨_, _⟩ := hSw; go_simp; (try with_reducible rfl)
          try change wpAnyH _ _ _ _ _ _ _ (Act.put _ (some 26) _) _
          try simp only [act_all]
          refine wpAnyH_take (i := 2) (oi := _) (v := ?_) rfl (by kernel_rfl) (by kernel_rfl) (by kernel_rfl) (fun _ _ _ h => h) (Or.inl ⟨by rfl, ?_⟩) (by assumption) ?_
          rotate_left
          · intro w hSw; obtain ⟨_, _⟩ := hSw; go_simp; (try with_reducible rfl)
          try change wpAnyH _ _ _ _ _ _ _ (Act.put _ (some 27) _) _
          try simp only [act_all]
          refine wpAnyH_take (i := 3) (oi := _) (v := ?_) rfl (by kernel_rfl) (by kernel_rfl) (by kernel_rfl) (fun _ _ _ h => h) (Or.inl ⟨by rfl, ?_⟩) (by assumption) ?_
          rotate_left
          · intro w hSw; obtain ⟨_, _⟩ := hSw; go_simp; (try with_reducible rfl)
          try change wpAnyH _ _ _ _ _ _ _ (Act.put _ (some 28) _) _
          try simp only [act_all]
          refine wpAnyH_take (i := 4) (oi := _) (v := ?_) rfl (by kernel_rfl) (by kernel_rfl) (by kernel_rfl) (fun _ _ _ h => h) (Or.inl ⟨by rfl, ?_⟩) (by assumption) ?_
          rotate_left
          · intro w hSw; obtain ⟨_, _⟩ := hSw; go_simp; (try with_reducible rfl)
          try change wpAnyH _ _ _ _ _ _ _ (Act.put _ (some 29) _) _
          try simp only [act_all]
          refine wpAnyH_take (i := 5) (oi := _) (v := ?_) rfl (by kernel_rfl) (by kernel_rfl) (by kernel_rfl) (fun _ _ _ h => h) (Or.inl ⟨by rfl, ?_⟩) (by assumption) ?_
          rotate_left
          · intro w hSw; obtain ⟨_, _⟩ := hSw; go_simp; (try with_reducible rfl)
          try change wpAnyH _ _ _ _ _ _ _ (Act.put _ (some 30) _) _
          try simp only [act_all]
          refine wpAnyH_take (i := 7) (oi := _) (v := ?_) rfl (by kernel_rfl) (by kernel_rfl) (by kernel_rfl) (fun _ _ _ h => h) (Or.inl ⟨by rfl, ?_⟩) (by assumption) ?_
          rotate_left
          · intro w hSw; obtain ⟨_, _⟩ := hSw; go_simp; (try with_reducible rfl)
          try change wpAnyH _ _ _ _ _ _ _ (Act.put _ (some 32) _) _
          try simp only [act_all]
          refine wpAnyH_take (i := 8) (oi := _) (v := ?_) rfl (by kernel_rfl) (by kernel_rfl) (by kernel_rfl) (fun _ _ _ h => h) (Or.inl ⟨by rfl, ?_⟩) (by assumption) ?_
          rotate_left
          · intro w hSw; obtain ⟨_, _⟩ := hSw; go_simp; (try with_reducible rfl)
          try change wpAnyH _ _ _ _ _ _ _ (Act.put _ (some 33) _) _
          try simp only [act_all]
          refine wpAnyH_ready (rs := [6]) (by kernel_rfl) (by simp) ?_
          refine AllReadyH.cons (o := _) rfl (fun K hK => ?_) AllReadyH.nil
          go_simp
          refine (KY.out _).mono ?_
          rintro e w14_ ⟨rfl, hb⟩
          have HD14 : Wk g e0 W.heap.size W w14_ := HD13.then (hb.mono HD13.size) hgW
          have hz14 := HD14.size
          have hq14 := hb.size
          (try simp at hq14)
          clear hb hHeld
          refine hK.out _ _ (G0.out _ _ HD14) (fun hHeld => ?_)
          clear hK K
          try simp only [act_all]
          refine wpAnyH_take (i := 9) (oi := _) (v := ?_) rfl (by kernel_rfl) (by kernel_rfl) (by kernel_rfl) (fun _ _ _ h => h) (Or.inl ⟨by rfl, ?_⟩) (by assumption) ?_
          rotate_left
          · intro w hSw; obtain ⟨_, _⟩ := hSw; go_simp; (try with_reducible rfl)
          try change wpAnyH _ _ _ _ _ _ _ (Act.put _ (some 34) _) _
          try simp only [act_all]
          refine wpAnyH_done (by kernel_rfl) ?_ _
          go_wp2_with fail
          go_roundw
          case rel => exact ⟨k, x, y, B / 2, by first | rfl | rw [wx] | go_num, by first | rfl | rw [wy] | go_num, by first | rfl | rw [wh2] | go_num, by omega, Lib.hid (HNXT.out (x) (y) (by rw [if_neg (fun hh => hx (HXX.out.2 hh))]) (by rw [if_neg (fun hh => hy (HYY.out.2 hh))])), HD14⟩
          case measure => simp [intOf]; omega
end Go.Proofs.Ytilclpldfoifkaa
