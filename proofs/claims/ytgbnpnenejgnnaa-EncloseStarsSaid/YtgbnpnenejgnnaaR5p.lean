import Derived.Test.YtgbnpnenejgnnaaR5t
import Derived.Deep.DeepCutAuto
namespace Go.Proofs.Ytgbnpnenejgnnaa
open Go.RowKit Encl

set_option maxRecDepth 100000 in
set_option maxHeartbeats 4000000 in
theorem rSquare_any (a b e0 : Int) (g : Nat) (w : World) (h1 : okS ⟨a, b⟩ = true) (hc : w.cell? ⟨g, 0, none⟩ = some (.int .i64 e0)) (hf : w.frozen? ⟨g, 0, none⟩ = false) :
    Calls Try.prog 128 #[.pointer (some ⟨g, 0, none⟩), .agg #[.int .i64 a, .int .i64 b]] w fun e w' => e = retS (rn e0 (sqS ⟨a, b⟩)).1 ∧ Wk g (rn e0 (sqS ⟨a, b⟩)).2 w.heap.size w w' := by
  have hg : g < w.heap.size := World.block_lt_of_cell? w _ hc
  rw [okS_iff] at h1
  simp only at h1
  obtain ⟨m1, hm1⟩ : ∃ m, fl a a 1073741824 = m := ⟨_, rfl⟩
  obtain ⟨n1, hn1⟩ : ∃ m, ce a a 1073741824 = m := ⟨_, rfl⟩
  obtain ⟨m2, hm2⟩ : ∃ m, fl b b 1073741824 = m := ⟨_, rfl⟩
  obtain ⟨n2, hn2⟩ : ∃ m, ce b b 1073741824 = m := ⟨_, rfl⟩
  obtain ⟨LO, hlo⟩ : ∃ LO, min m1 m2 = LO := ⟨_, rfl⟩
  obtain ⟨HI, hhi⟩ : ∃ HI, max n1 n2 = HI := ⟨_, rfl⟩
  have HS : Hid (sqS ⟨a, b⟩ = inR (zlo ⟨a, b⟩ ⟨LO, HI⟩)) := Lib.hid (by rw [sqS_eq]; simp only; rw [hm1, hm2, hn1, hn2, hlo, hhi])
  have K1 : Hid (∀ w1 : World, Calls Try.prog 134 #[.int .i64 a, .int .i64 a] w1 fun e w' => e = .returned (.int .i64 m1) ∧ Below w1.heap.size w1 w') := Lib.hid (fun w1 => by rw [← hm1]; exact rTimesDown_any a a w1 (by omega) (by omega))
  have J1 : Hid (∀ w1 : World, Calls Try.prog 133 #[.int .i64 a, .int .i64 a] w1 fun e w' => e = .returned (.int .i64 n1) ∧ Below w1.heap.size w1 w') := Lib.hid (fun w1 => by rw [← hn1]; exact rTimesUp_any a a w1 (by omega) (by omega))
  have K2 : Hid (∀ w1 : World, Calls Try.prog 134 #[.int .i64 b, .int .i64 b] w1 fun e w' => e = .returned (.int .i64 m2) ∧ Below w1.heap.size w1 w') := Lib.hid (fun w1 => by rw [← hm2]; exact rTimesDown_any b b w1 (by omega) (by omega))
  have J2 : Hid (∀ w1 : World, Calls Try.prog 133 #[.int .i64 b, .int .i64 b] w1 fun e w' => e = .returned (.int .i64 n2) ∧ Below w1.heap.size w1 w') := Lib.hid (fun w1 => by rw [← hn2]; exact rTimesUp_any b b w1 (by omega) (by omega))
  have HEL : Hid ((if m2 < m1 then m2 else m1) = LO) := Lib.hid (by rw [← hlo]; omega)
  have HEU : Hid ((if n1 < n2 then n2 else n1) = HI) := Lib.hid (by rw [← hhi]; omega)
  clear h1 hlo hhi hm1 hm2 hn1 hn2
  rw [HS.out]
  obtain ⟨rs, re, hr⟩ : ∃ rs re, rn e0 (inR (zlo ⟨a, b⟩ ⟨LO, HI⟩)) = (rs, re) := ⟨_, _, rfl⟩
  have HR := Lib.hid hr
  rw [hr]
  obtain ⟨p, q⟩ := rs
  clear hr HS
  go_enter Try.func128, Try.ntmps128
  go_wp2_with fail
  have hb0 : Below w.heap.size w ((w.alloc (Obj.cells #[.int .i64 a, .int .i64 b] 23)).alloc (Obj.cells #[.int .i64 0, .int .i64 0] 23)) := by go_grown
  have hc0 : ((w.alloc (Obj.cells #[.int .i64 a, .int .i64 b] 23)).alloc (Obj.cells #[.int .i64 0, .int .i64 0] 23)).cell? ⟨g, 0, none⟩ = some (.int .i64 e0) := (hb0.cell (p := ⟨g, 0, none⟩) hg).trans hc
  have hf0 : ((w.alloc (Obj.cells #[.int .i64 a, .int .i64 b] 23)).alloc (Obj.cells #[.int .i64 0, .int .i64 0] 23)).frozen? ⟨g, 0, none⟩ = false := (hb0.frozen (p := ⟨g, 0, none⟩) hg).trans hf
  have c0 : ((w.alloc (Obj.cells #[.int .i64 a, .int .i64 b] 23)).alloc (Obj.cells #[.int .i64 0, .int .i64 0] 23)).cell? ⟨w.heap.size, 0, none⟩ = some (.int .i64 a) := by go_cell
  have c1 : ((w.alloc (Obj.cells #[.int .i64 a, .int .i64 b] 23)).alloc (Obj.cells #[.int .i64 0, .int .i64 0] 23)).cell? ⟨w.heap.size, 1, none⟩ = some (.int .i64 b) := by go_cell
  have d0 : ((w.alloc (Obj.cells #[.int .i64 a, .int .i64 b] 23)).alloc (Obj.cells #[.int .i64 0, .int .i64 0] 23)).cell? ⟨w.heap.size + 1, 0, none⟩ = some (.int .i64 0) := by go_cell
  have f0 : ((w.alloc (Obj.cells #[.int .i64 a, .int .i64 b] 23)).alloc (Obj.cells #[.int .i64 0, .int .i64 0] 23)).frozen? ⟨w.heap.size + 1, 0, none⟩ = false := by go_cell
  have d1 : ((w.alloc (Obj.cells #[.int .i64 a, .int .i64 b] 23)).alloc (Obj.cells #[.int .i64 0, .int .i64 0] 23)).cell? ⟨w.heap.size + 1, 1, none⟩ = some (.int .i64 0) := by go_cell
  have f1 : ((w.alloc (Obj.cells #[.int .i64 a, .int .i64 b] 23)).alloc (Obj.cells #[.int .i64 0, .int .i64 0] 23)).frozen? ⟨w.heap.size + 1, 1, none⟩ = false := by go_cell
  have hsz : w.heap.size + 1 < ((w.alloc (Obj.cells #[.int .i64 a, .int .i64 b] 23)).alloc (Obj.cells #[.int .i64 0, .int .i64 0] 23)).heap.size := by simp
  generalize ((w.alloc (Obj.cells #[.int .i64 a, .int .i64 b] 23)).alloc (Obj.cells #[.int .i64 0, .int .i64 0] 23)) = W at *
  have hgW : g < W.heap.size := by omega
  have HD : Wk g e0 W.heap.size W W := ⟨rfl, rfl, rfl, Nat.le_refl _, fun _ _ _ => rfl, hc0, hf0⟩
  have HW0 := Lib.hid (Wk.of_below hb0 hc0 hf0)
  have G0 : Hid (∀ (e : Int) w', Wk g e W.heap.size W w' → w'.cell? ⟨w.heap.size, 0, none⟩ = some (.int .i64 a) ∧ w'.cell? ⟨w.heap.size, 1, none⟩ = some (.int .i64 b)) := Lib.hid (fun e w' hb => by
    exact ⟨(hb.cells.1 _ 0 (by omega) (by omega)).trans c0, (hb.cells.1 _ 1 (by omega) (by omega)).trans c1⟩)
  have G1 : Hid (∀ (e : Int) w', Wk g e W.heap.size W w' → w'.cell? ⟨w.heap.size + 1, 0, none⟩ = some (.int .i64 0) ∧ w'.cell? ⟨w.heap.size + 1, 1, none⟩ = some (.int .i64 0) ∧ w'.frozen? ⟨w.heap.size + 1, 0, none⟩ = false ∧ w'.frozen? ⟨w.heap.size + 1, 1, none⟩ = false) := Lib.hid (fun e w' hb => by
    exact ⟨(hb.cells.1 _ 0 (by omega) (by omega)).trans d0, (hb.cells.1 _ 1 (by omega) (by omega)).trans d1, (hb.cells.2 _ 0 (by omega) (by omega)).trans f0, (hb.cells.2 _ 1 (by omega) (by omega)).trans f1⟩)
  clear hb0 hc hf hc0 hf0 c0 c1 d0 d1 f0 f1
  have HD1 : Wk g e0 W.heap.size W W.drew := HD.then ((Below.refl _ _).drew.mono HD.size) hgW
  refine wp_region_held_drew (S := fun w' => w'.cell? ⟨w.heap.size, 0, none⟩ = some (.int .i64 a) ∧ w'.cell? ⟨w.heap.size, 1, none⟩ = some (.int .i64 b)) (by kernel_rfl) (G0.out _ _ HD1) (fun hHeld => ?_)
  refine wpAnyH_take (i := 0) (oi := _) (v := ?_) rfl (by kernel_rfl) (by kernel_rfl) (by kernel_rfl) (fun _ _ _ h => h) (Or.inl ⟨by rfl, ?_⟩) (by assumption) ?_
  rotate_left
  · intro w hSw; obtain ⟨_, _⟩ := hSw; go_simp; (try with_reducible rfl)
  try change wpAnyH _ _ _ _ _ _ _ (Act.put _ (some 6) _) _
  try simp only [act_all]
  refine wpAnyH_take (i := 1) (oi := _) (v := ?_) rfl (by kernel_rfl) (by kernel_rfl) (by kernel_rfl) (fun _ _ _ h => h) (Or.inl ⟨by rfl, ?_⟩) (by assumption) ?_
  rotate_left
  · intro w hSw; obtain ⟨_, _⟩ := hSw; go_simp; (try with_reducible rfl)
  try change wpAnyH _ _ _ _ _ _ _ (Act.put _ (some 7) _) _
  try simp only [act_all]
  refine wpAnyH_take (i := 2) (oi := _) (v := ?_) rfl (by kernel_rfl) (by kernel_rfl) (by kernel_rfl) (fun _ _ _ h => h) (Or.inl ⟨by rfl, ?_⟩) (by assumption) ?_
  rotate_left
  · intro w hSw; obtain ⟨_, _⟩ := hSw; go_simp; (try with_reducible rfl)
  try change wpAnyH _ _ _ _ _ _ _ (Act.put _ (some 8) _) _
  try simp only [act_all]
  refine wpAnyH_take (i := 3) (oi := _) (v := ?_) rfl (by kernel_rfl) (by kernel_rfl) (by kernel_rfl) (fun _ _ _ h => h) (Or.inl ⟨by rfl, ?_⟩) (by assumption) ?_
  rotate_left
  · intro w hSw; obtain ⟨_, _⟩ := hSw; go_simp; (try with_reducible rfl)
  try change wpAnyH _ _ _ _ _ _ _ (Act.put _ (some 9) _) _
  try simp only [act_all]
  refine wpAnyH_take (i := 5) (oi := _) (v := ?_) rfl (by kernel_rfl) (by kernel_rfl) (by kernel_rfl) (fun _ _ _ h => h) (Or.inl ⟨by rfl, ?_⟩) (by assumption) ?_
  rotate_left
  · intro w hSw; obtain ⟨_, _⟩ := hSw; go_simp; (try with_reducible rfl)
  try change wpAnyH _ _ _ _ _ _ _ (Act.put _ (some 11) _) _
  try simp only [act_all]
  refine wpAnyH_take (i := 6) (oi := _) (v := ?_) rfl (by kernel_rfl) (by kernel_rfl) (by kernel_rfl) (fun _ _ _ h => h) (Or.inl ⟨by rfl, ?_⟩) (by assumption) ?_
  rotate_left
  · intro w hSw; obtain ⟨_, _⟩ := hSw; go_simp; (try with_reducible rfl)
  try change wpAnyH _ _ _ _ _ _ _ (Act.put _ (some 12) _) _
  try simp only [act_all]
  refine wpAnyH_take (i := 7) (oi := _) (v := ?_) rfl (by kernel_rfl) (by kernel_rfl) (by kernel_rfl) (fun _ _ _ h => h) (Or.inl ⟨by rfl, ?_⟩) (by assumption) ?_
  rotate_left
  · intro w hSw; obtain ⟨_, _⟩ := hSw; go_simp; (try with_reducible rfl)
  try change wpAnyH _ _ _ _ _ _ _ (Act.put _ (some 13) _) _
  try simp only [act_all]
  refine wpAnyH_take (i := 8) (oi := _) (v := ?_) rfl (by kernel_rfl) (by kernel_rfl) (by kernel_rfl) (fun _ _ _ h => h) (Or.inl ⟨by rfl, ?_⟩) (by assumption) ?_
  rotate_left
  · intro w hSw; obtain ⟨_, _⟩ := hSw; go_simp; (try with_reducible rfl)
  try change wpAnyH _ _ _ _ _ _ _ (Act.put _ (some 14) _) _
  try simp only [act_all]
  refine wpAnyH_ready (rs := [4]) (by kernel_rfl) (by simp) ?_
  refine AllReadyH.cons (o := _) rfl (fun K hK => ?_) AllReadyH.nil
  go_simp
  refine (J1.out _).mono ?_
  rintro e w2_ ⟨rfl, hb⟩
  have HD2 : Wk g e0 W.heap.size W w2_ := HD1.then (hb.mono HD1.size) hgW
  have hz2 := HD2.size
  have hq2 := hb.size
  (try simp at hq2)
  clear hb hHeld
  refine hK.out _ _ (G0.out _ _ HD2) (fun hHeld => ?_)
  clear hK K
  try simp only [act_all]
  refine wpAnyH_ready (rs := [9]) (by kernel_rfl) (by simp) ?_
  refine AllReadyH.cons (o := _) rfl (fun K hK => ?_) AllReadyH.nil
  go_simp
  refine (J2.out _).mono ?_
  rintro e w3_ ⟨rfl, hb⟩
  have HD3 : Wk g e0 W.heap.size W w3_ := HD2.then (hb.mono HD2.size) hgW
  have hz3 := HD3.size
  have hq3 := hb.size
  (try simp at hq3)
  clear hb hHeld
  refine hK.out _ _ (G0.out _ _ HD3) (fun hHeld => ?_)
  clear hK K
  try simp only [act_all]
  refine wpAnyH_ready (rs := [10]) (by kernel_rfl) (by simp) ?_
  refine AllReadyH.cons (o := _) rfl (fun K hK => ?_) AllReadyH.nil
  go_simp
  refine hK.out _ _ (G0.out _ _ HD3) (fun hHeld => ?_)
  clear hK K
  try simp only [act_all]
  simp only [HEU.out]
  refine wpAnyH_take (i := 11) (oi := _) (v := ?_) rfl (by kernel_rfl) (by kernel_rfl) (by kernel_rfl) (fun _ _ _ h => h) (Or.inl ⟨by rfl, ?_⟩) (by assumption) ?_
  rotate_left
  · intro w hSw; obtain ⟨_, _⟩ := hSw; go_simp; (try with_reducible rfl)
  try change wpAnyH _ _ _ _ _ _ _ (Act.put _ (some 5) _) _
  try simp only [act_all]
  refine wpAnyH_done (by kernel_rfl) ?_ _
  obtain ⟨_, _⟩ := G0.out _ _ HD3
  by_cases hz : a ≤ 0 ∧ 0 ≤ b
  · have HZ : Hid (zlo ⟨a, b⟩ ⟨LO, HI⟩ = ⟨0, HI⟩) := Lib.hid (if_pos hz)
    obtain ⟨z1, z2⟩ := hz
    go_wp2_with fail
    refine (rSpan_any _ _ e0 g _ HD3.cell HD3.free).mono ?_
    rw [← HZ.out, HR.out]
    rintro e wz ⟨he, hb⟩
    obtain rfl : e = .returned (.agg #[.int .i64 p, .int .i64 q]) := he
    have HDz := HD3.trans (hb.mono HD3.size)
    obtain ⟨_, _, _, _⟩ := G1.out _ _ HDz
    have sz := HDz.size
    have HWz := Lib.hid (HW0.out.trans (HDz.mono HW0.out.size))
    have DZ : Below w.heap.size wz wz := Below.refl _ _
    have lz : w.heap.size + 1 < wz.heap.size := by omega
    clear hb hHeld
    go_wp2_with fail
    refine bodyPost_ret (v := .agg #[.int .i64 p, .int .i64 q]) (by simp [results, Try.results128, go_sem, *]) rfl ⟨rfl, HWz.out.then (by go_grown) hg⟩
  have HZ : Hid (zlo ⟨a, b⟩ ⟨LO, HI⟩ = ⟨LO, HI⟩) := Lib.hid (if_neg hz)
  have HR2 : Hid (rn e0 (inR ⟨LO, HI⟩) = (⟨p, q⟩, re)) := Lib.hid (by rw [← HZ.out]; exact HR.out)
  rcases (show ¬ a ≤ 0 ∨ (a ≤ 0 ∧ ¬ 0 ≤ b) by omega) with z1 | ⟨z1, z2⟩
  · clear hz
    go_upto_region 4 with fail
    clear hHeld
    have HD4 : Wk g e0 W.heap.size W w3_.drew := HD3.then ((Below.refl _ _).drew.mono HD3.size) hgW
    refine wp_region_held_drew (S := fun w' => w'.cell? ⟨w.heap.size, 0, none⟩ = some (.int .i64 a) ∧ w'.cell? ⟨w.heap.size, 1, none⟩ = some (.int .i64 b)) (by kernel_rfl) (G0.out _ _ HD4) (fun hHeld => ?_)
    refine wpAnyH_take (i := 0) (oi := _) (v := ?_) rfl (by kernel_rfl) (by kernel_rfl) (by kernel_rfl) (fun _ _ _ h => h) (Or.inl ⟨by rfl, ?_⟩) (by assumption) ?_
    rotate_left
    · intro w hSw; obtain ⟨_, _⟩ := hSw; go_simp; (try with_reducible rfl)
    try change wpAnyH _ _ _ _ _ _ _ (Act.put _ (some 28) _) _
    try simp only [act_all]
    refine wpAnyH_take (i := 1) (oi := _) (v := ?_) rfl (by kernel_rfl) (by kernel_rfl) (by kernel_rfl) (fun _ _ _ h => h) (Or.inl ⟨by rfl, ?_⟩) (by assumption) ?_
    rotate_left
    · intro w hSw; obtain ⟨_, _⟩ := hSw; go_simp; (try with_reducible rfl)
    try change wpAnyH _ _ _ _ _ _ _ (Act.put _ (some 29) _) _
    try simp only [act_all]
    refine wpAnyH_take (i := 2) (oi := _) (v := ?_) rfl (by kernel_rfl) (by kernel_rfl) (by kernel_rfl) (fun _ _ _ h => h) (Or.inl ⟨by rfl, ?_⟩) (by assumption) ?_
    rotate_left
    · intro w hSw; obtain ⟨_, _⟩ := hSw; go_simp; (try with_reducible rfl)
    try change wpAnyH _ _ _ _ _ _ _ (Act.put _ (some 30) _) _
    try simp only [act_all]
    refine wpAnyH_take (i := 3) (oi := _) (v := ?_) rfl (by kernel_rfl) (by kernel_rfl) (by kernel_rfl) (fun _ _ _ h => h) (Or.inl ⟨by rfl, ?_⟩) (by assumption) ?_
    rotate_left
    · intro w hSw; obtain ⟨_, _⟩ := hSw; go_simp; (try with_reducible rfl)
    try change wpAnyH _ _ _ _ _ _ _ (Act.put _ (some 31) _) _
    try simp only [act_all]
    refine wpAnyH_take (i := 4) (oi := _) (v := ?_) rfl (by kernel_rfl) (by kernel_rfl) (by kernel_rfl) (fun _ _ _ h => h) (Or.inl ⟨by rfl, ?_⟩) (by assumption) ?_
    rotate_left
    · intro w hSw; obtain ⟨_, _⟩ := hSw; go_simp; (try with_reducible rfl)
    try change wpAnyH _ _ _ _ _ _ _ (Act.put _ (some 32) _) _
    try simp only [act_all]
    refine wpAnyH_take (i := 6) (oi := _) (v := ?_) rfl (by kernel_rfl) (by kernel_rfl) (by kernel_rfl) (fun _ _ _ h => h) (Or.inl ⟨by rfl, ?_⟩) (by assumption) ?_
    rotate_left
    · intro w hSw; obtain ⟨_, _⟩ := hSw; go_simp; (try with_reducible rfl)
    try change wpAnyH _ _ _ _ _ _ _ (Act.put _ (some 34) _) _
    try simp only [act_all]
    refine wpAnyH_take (i := 7) (oi := _) (v := ?_) rfl (by kernel_rfl) (by kernel_rfl) (by kernel_rfl) (fun _ _ _ h => h) (Or.inl ⟨by rfl, ?_⟩) (by assumption) ?_
    rotate_left
    · intro w hSw; obtain ⟨_, _⟩ := hSw; go_simp; (try with_reducible rfl)
    try change wpAnyH _ _ _ _ _ _ _ (Act.put _ (some 35) _) _
    try simp only [act_all]
    refine wpAnyH_take (i := 8) (oi := _) (v := ?_) rfl (by kernel_rfl) (by kernel_rfl) (by kernel_rfl) (fun _ _ _ h => h) (Or.inl ⟨by rfl, ?_⟩) (by assumption) ?_
    rotate_left
    · intro w hSw; obtain ⟨_, _⟩ := hSw; go_simp; (try with_reducible rfl)
    try change wpAnyH _ _ _ _ _ _ _ (Act.put _ (some 36) _) _
    try simp only [act_all]
    refine wpAnyH_take (i := 9) (oi := _) (v := ?_) rfl (by kernel_rfl) (by kernel_rfl) (by kernel_rfl) (fun _ _ _ h => h) (Or.inl ⟨by rfl, ?_⟩) (by assumption) ?_
    rotate_left
    · intro w hSw; obtain ⟨_, _⟩ := hSw; go_simp; (try with_reducible rfl)
    try change wpAnyH _ _ _ _ _ _ _ (Act.put _ (some 37) _) _
    try simp only [act_all]
    refine wpAnyH_take (i := 12) (oi := _) (v := ?_) rfl (by kernel_rfl) (by kernel_rfl) (by kernel_rfl) (fun _ _ _ h => h) (Or.inl ⟨by rfl, ?_⟩) (by assumption) ?_
    rotate_left
    · intro w hSw; obtain ⟨_, _⟩ := hSw; go_simp; (try with_reducible rfl)
    try change wpAnyH _ _ _ _ _ _ _ (Act.put _ (some 40) _) _
    try simp only [act_all]
    refine wpAnyH_ready (rs := [5]) (by kernel_rfl) (by simp) ?_
    refine AllReadyH.cons (o := _) rfl (fun K hK => ?_) AllReadyH.nil
    go_simp
    refine (K1.out _).mono ?_
    rintro e w5_ ⟨rfl, hb⟩
    have HD5 : Wk g e0 W.heap.size W w5_ := HD4.then (hb.mono HD4.size) hgW
    have hz5 := HD5.size
    have hq5 := hb.size
    (try simp at hq5)
    clear hb hHeld
    refine hK.out _ _ (G0.out _ _ HD5) (fun hHeld => ?_)
    clear hK K
    try simp only [act_all]
    refine wpAnyH_ready (rs := [10]) (by kernel_rfl) (by simp) ?_
    refine AllReadyH.cons (o := _) rfl (fun K hK => ?_) AllReadyH.nil
    go_simp
    refine (K2.out _).mono ?_
    rintro e w6_ ⟨rfl, hb⟩
    have HD6 : Wk g e0 W.heap.size W w6_ := HD5.then (hb.mono HD5.size) hgW
    have hz6 := HD6.size
    have hq6 := hb.size
    (try simp at hq6)
    clear hb hHeld
    refine hK.out _ _ (G0.out _ _ HD6) (fun hHeld => ?_)
    clear hK K
    try simp only [act_all]
    refine wpAnyH_ready (rs := [11]) (by kernel_rfl) (by simp) ?_
    refine AllReadyH.cons (o := _) rfl (fun K hK => ?_) AllReadyH.nil
    go_simp
    refine hK.out _ _ (G0.out _ _ HD6) (fun hHeld => ?_)
    clear hK K
    try simp only [act_all]
    simp only [HEL.out]
    refine wpAnyH_ready (rs := [13]) (by kernel_rfl) (by simp) ?_
    refine AllReadyH.cons (o := _) rfl (fun K hK => ?_) AllReadyH.nil
    go_simp
    refine (rSpan_any LO HI e0 g _ HD6.cell HD6.free).mono ?_
    rintro e w7_ ⟨he, hb⟩
    obtain ⟨r, hr⟩ : ∃ r, (rn e0 (inR ⟨LO, HI⟩)) = r := ⟨_, rfl⟩
    rw [hr] at he hb
    obtain ⟨⟨p', q'⟩, e'⟩ := r
    have HR7 := Lib.hid hr
    have HD7 : Wk g e' W.heap.size W w7_ := HD6.trans (hb.mono HD6.size)
    obtain rfl : e = .returned (.agg #[.int .i64 p', .int .i64 q']) := he
    have hz7 := HD7.size
    have hq7 := hb.size
    (try simp at hq7)
    clear hb hHeld hr
    obtain ⟨hs', rfl⟩ := Prod.mk.inj (HR7.out.symm.trans HR2.out)
    obtain ⟨rfl, rfl⟩ := Sp.mk.inj hs'
    refine hK.out _ _ (G0.out _ _ HD7) (fun hHeld => ?_)
    clear hK K
    try simp only [act_all]
    refine wpAnyH_ready (rs := [14]) (by kernel_rfl) (by simp) ?_
    refine AllReadyH.cons (o := _) rfl (fun K hK => ?_) AllReadyH.nil
    obtain ⟨_, _⟩ := G0.out _ _ HD7
    obtain ⟨_, _, _, _⟩ := G1.out _ _ HD7
    have hsz9 : w.heap.size + 1 < w7_.heap.size := by have := HD7.size; omega
    go_simp
    refine hK.out _ _ (by refine ⟨?_, ?_⟩ <;> go_cell) (fun hHeld => ?_)
    clear hK K
    try simp only [act_all]
    refine wpAnyH_done (by kernel_rfl) ?_ _
    have DL : Below w.heap.size w7_ w7_ := Below.refl _ _
    have HWF := Lib.hid (HW0.out.trans (HD7.mono HW0.out.size))
    go_wp2_with fail
    refine bodyPost_ret (v := .agg #[.int .i64 p', .int .i64 q']) (by simp [results, Try.results128, go_sem, *]) rfl ⟨rfl, HWF.out.then (by go_grown) hg⟩
  · clear hz
    go_upto_region 4 with fail
    clear hHeld
    have HD8 : Wk g e0 W.heap.size W w3_.drew := HD3.then ((Below.refl _ _).drew.mono HD3.size) hgW
    refine wp_region_held_drew (S := fun w' => w'.cell? ⟨w.heap.size, 0, none⟩ = some (.int .i64 a) ∧ w'.cell? ⟨w.heap.size, 1, none⟩ = some (.int .i64 b)) (by kernel_rfl) (G0.out _ _ HD8) (fun hHeld => ?_)
    refine wpAnyH_take (i := 0) (oi := _) (v := ?_) rfl (by kernel_rfl) (by kernel_rfl) (by kernel_rfl) (fun _ _ _ h => h) (Or.inl ⟨by rfl, ?_⟩) (by assumption) ?_
    rotate_left
    · intro w hSw; obtain ⟨_, _⟩ := hSw; go_simp; (try with_reducible rfl)
    try change wpAnyH _ _ _ _ _ _ _ (Act.put _ (some 28) _) _
    try simp only [act_all]
    refine wpAnyH_take (i := 1) (oi := _) (v := ?_) rfl (by kernel_rfl) (by kernel_rfl) (by kernel_rfl) (fun _ _ _ h => h) (Or.inl ⟨by rfl, ?_⟩) (by assumption) ?_
    rotate_left
    · intro w hSw; obtain ⟨_, _⟩ := hSw; go_simp; (try with_reducible rfl)
    try change wpAnyH _ _ _ _ _ _ _ (Act.put _ (some 29) _) _
    try simp only [act_all]
    refine wpAnyH_take (i := 2) (oi := _) (v := ?_) rfl (by kernel_rfl) (by kernel_rfl) (by kernel_rfl) (fun _ _ _ h => h) (Or.inl ⟨by rfl, ?_⟩) (by assumption) ?_
    rotate_left
    · intro w hSw; obtain ⟨_, _⟩ := hSw; go_simp; (try with_reducible rfl)
    try change wpAnyH _ _ _ _ _ _ _ (Act.put _ (some 30) _) _
    try simp only [act_all]
    refine wpAnyH_take (i := 3) (oi := _) (v := ?_) rfl (by kernel_rfl) (by kernel_rfl) (by kernel_rfl) (fun _ _ _ h => h) (Or.inl ⟨by rfl, ?_⟩) (by assumption) ?_
    rotate_left
    · intro w hSw; obtain ⟨_, _⟩ := hSw; go_simp; (try with_reducible rfl)
    try change wpAnyH _ _ _ _ _ _ _ (Act.put _ (some 31) _) _
    try simp only [act_all]
    refine wpAnyH_take (i := 4) (oi := _) (v := ?_) rfl (by kernel_rfl) (by kernel_rfl) (by kernel_rfl) (fun _ _ _ h => h) (Or.inl ⟨by rfl, ?_⟩) (by assumption) ?_
    rotate_left
    · intro w hSw; obtain ⟨_, _⟩ := hSw; go_simp; (try with_reducible rfl)
    try change wpAnyH _ _ _ _ _ _ _ (Act.put _ (some 32) _) _
    try simp only [act_all]
    refine wpAnyH_take (i := 6) (oi := _) (v := ?_) rfl (by kernel_rfl) (by kernel_rfl) (by kernel_rfl) (fun _ _ _ h => h) (Or.inl ⟨by rfl, ?_⟩) (by assumption) ?_
    rotate_left
    · intro w hSw; obtain ⟨_, _⟩ := hSw; go_simp; (try with_reducible rfl)
    try change wpAnyH _ _ _ _ _ _ _ (Act.put _ (some 34) _) _
    try simp only [act_all]
    refine wpAnyH_take (i := 7) (oi := _) (v := ?_) rfl (by kernel_rfl) (by kernel_rfl) (by kernel_rfl) (fun _ _ _ h => h) (Or.inl ⟨by rfl, ?_⟩) (by assumption) ?_
    rotate_left
    · intro w hSw; obtain ⟨_, _⟩ := hSw; go_simp; (try with_reducible rfl)
    try change wpAnyH _ _ _ _ _ _ _ (Act.put _ (some 35) _) _
    try simp only [act_all]
    refine wpAnyH_take (i := 8) (oi := _) (v := ?_) rfl (by kernel_rfl) (by kernel_rfl) (by kernel_rfl) (fun _ _ _ h => h) (Or.inl ⟨by rfl, ?_⟩) (by assumption) ?_
    rotate_left
    · intro w hSw; obtain ⟨_, _⟩ := hSw; go_simp; (try with_reducible rfl)
    try change wpAnyH _ _ _ _ _ _ _ (Act.put _ (some 36) _) _
    try simp only [act_all]
    refine wpAnyH_take (i := 9) (oi := _) (v := ?_) rfl (by kernel_rfl) (by kernel_rfl) (by kernel_rfl) (fun _ _ _ h => h) (Or.inl ⟨by rfl, ?_⟩) (by assumption) ?_
    rotate_left
    · intro w hSw; obtain ⟨_, _⟩ := hSw; go_simp; (try with_reducible rfl)
    try change wpAnyH _ _ _ _ _ _ _ (Act.put _ (some 37) _) _
    try simp only [act_all]
    refine wpAnyH_take (i := 12) (oi := _) (v := ?_) rfl (by kernel_rfl) (by kernel_rfl) (by kernel_rfl) (fun _ _ _ h => h) (Or.inl ⟨by rfl, ?_⟩) (by assumption) ?_
    rotate_left
    · intro w hSw; obtain ⟨_, _⟩ := hSw; go_simp; (try with_reducible rfl)
    try change wpAnyH _ _ _ _ _ _ _ (Act.put _ (some 40) _) _
    try simp only [act_all]
    refine wpAnyH_ready (rs := [5]) (by kernel_rfl) (by simp) ?_
    refine AllReadyH.cons (o := _) rfl (fun K hK => ?_) AllReadyH.nil
    go_simp
    refine (K1.out _).mono ?_
    rintro e w9_ ⟨rfl, hb⟩
    have HD9 : Wk g e0 W.heap.size W w9_ := HD8.then (hb.mono HD8.size) hgW
    have hz9 := HD9.size
    have hq9 := hb.size
    (try simp at hq9)
    clear hb hHeld
    refine hK.out _ _ (G0.out _ _ HD9) (fun hHeld => ?_)
    clear hK K
    try simp only [act_all]
    refine wpAnyH_ready (rs := [10]) (by kernel_rfl) (by simp) ?_
    refine AllReadyH.cons (o := _) rfl (fun K hK => ?_) AllReadyH.nil
    go_simp
    refine (K2.out _).mono ?_
    rintro e w10_ ⟨rfl, hb⟩
    have HD10 : Wk g e0 W.heap.size W w10_ := HD9.then (hb.mono HD9.size) hgW
    have hz10 := HD10.size
    have hq10 := hb.size
    (try simp at hq10)
    clear hb hHeld
    refine hK.out _ _ (G0.out _ _ HD10) (fun hHeld => ?_)
    clear hK K
    try simp only [act_all]
    refine wpAnyH_ready (rs := [11]) (by kernel_rfl) (by simp) ?_
    refine AllReadyH.cons (o := _) rfl (fun K hK => ?_) AllReadyH.nil
    go_simp
    refine hK.out _ _ (G0.out _ _ HD10) (fun hHeld => ?_)
    clear hK K
    try simp only [act_all]
    simp only [HEL.out]
    refine wpAnyH_ready (rs := [13]) (by kernel_rfl) (by simp) ?_
    refine AllReadyH.cons (o := _) rfl (fun K hK => ?_) AllReadyH.nil
    go_simp
    refine (rSpan_any LO HI e0 g _ HD10.cell HD10.free).mono ?_
    rintro e w11_ ⟨he, hb⟩
    obtain ⟨r, hr⟩ : ∃ r, (rn e0 (inR ⟨LO, HI⟩)) = r := ⟨_, rfl⟩
    rw [hr] at he hb
    obtain ⟨⟨p', q'⟩, e'⟩ := r
    have HR11 := Lib.hid hr
    have HD11 : Wk g e' W.heap.size W w11_ := HD10.trans (hb.mono HD10.size)
    obtain rfl : e = .returned (.agg #[.int .i64 p', .int .i64 q']) := he
    have hz11 := HD11.size
    have hq11 := hb.size
    (try simp at hq11)
    clear hb hHeld hr
    obtain ⟨hs', rfl⟩ := Prod.mk.inj (HR11.out.symm.trans HR2.out)
    obtain ⟨rfl, rfl⟩ := Sp.mk.inj hs'
    refine hK.out _ _ (G0.out _ _ HD11) (fun hHeld => ?_)
    clear hK K
    try simp only [act_all]
    refine wpAnyH_ready (rs := [14]) (by kernel_rfl) (by simp) ?_
    refine AllReadyH.cons (o := _) rfl (fun K hK => ?_) AllReadyH.nil
    obtain ⟨_, _⟩ := G0.out _ _ HD11
    obtain ⟨_, _, _, _⟩ := G1.out _ _ HD11
    have hsz9 : w.heap.size + 1 < w11_.heap.size := by have := HD11.size; omega
    go_simp
    refine hK.out _ _ (by refine ⟨?_, ?_⟩ <;> go_cell) (fun hHeld => ?_)
    clear hK K
    try simp only [act_all]
    refine wpAnyH_done (by kernel_rfl) ?_ _
    have DL : Below w.heap.size w11_ w11_ := Below.refl _ _
    have HWF := Lib.hid (HW0.out.trans (HD11.mono HW0.out.size))
    go_wp2_with fail
    refine bodyPost_ret (v := .agg #[.int .i64 p', .int .i64 q']) (by simp [results, Try.results128, go_sem, *]) rfl ⟨rfl, HWF.out.then (by go_grown) hg⟩
end Go.Proofs.Ytgbnpnenejgnnaa

namespace Go.Proofs.Ytgbnpnenejgnnaa
open Go.RowKit Encl

set_option maxRecDepth 100000 in
set_option maxHeartbeats 4000000 in
theorem rPowerW_any (a b c d e0 : Int) (g : Nat) (w : World) (h1 : okS ⟨a, b⟩ = true) (h2 : okS ⟨c, d⟩ = true) (hc : w.cell? ⟨g, 0, none⟩ = some (.int .i64 e0)) (hf : w.frozen? ⟨g, 0, none⟩ = false) :
    Calls Try.prog 81 #[.pointer (some ⟨g, 0, none⟩), .agg #[.int .i64 a, .int .i64 b, .int .i64 c, .int .i64 d]] w fun e w' => e = retS (powW e0 ⟨⟨a, b⟩, ⟨c, d⟩⟩).1 ∧ Wk g (powW e0 ⟨⟨a, b⟩, ⟨c, d⟩⟩).2 w.heap.size w w' := by
  have hg : g < w.heap.size := World.block_lt_of_cell? w _ hc
  have H1 := Lib.hid h1
  have H2 := Lib.hid h2
  clear h1 h2
  obtain ⟨SP, hsp⟩ : ∃ SP, (powW e0 ⟨⟨a, b⟩, ⟨c, d⟩⟩) = SP := ⟨_, rfl⟩
  have HSP := Lib.hid hsp
  rw [hsp]
  clear hsp
  go_enter Try.func81, Try.ntmps81
  go_wp2_with fail
  have hb0 : Below w.heap.size w ((w.alloc (Obj.cells #[.int .i64 a, .int .i64 b, .int .i64 c, .int .i64 d] 25)).alloc (Obj.cells #[.int .i64 0, .int .i64 0] 23)) := by go_grown
  have hc0 : ((w.alloc (Obj.cells #[.int .i64 a, .int .i64 b, .int .i64 c, .int .i64 d] 25)).alloc (Obj.cells #[.int .i64 0, .int .i64 0] 23)).cell? ⟨g, 0, none⟩ = some (.int .i64 e0) := (hb0.cell (p := ⟨g, 0, none⟩) hg).trans hc
  have hf0 : ((w.alloc (Obj.cells #[.int .i64 a, .int .i64 b, .int .i64 c, .int .i64 d] 25)).alloc (Obj.cells #[.int .i64 0, .int .i64 0] 23)).frozen? ⟨g, 0, none⟩ = false := (hb0.frozen (p := ⟨g, 0, none⟩) hg).trans hf
  have hs0 : ((w.alloc (Obj.cells #[.int .i64 a, .int .i64 b, .int .i64 c, .int .i64 d] 25)).alloc (Obj.cells #[.int .i64 0, .int .i64 0] 23)).cell? ⟨w.heap.size, 0, none⟩ = some (.int .i64 a) ∧ ((w.alloc (Obj.cells #[.int .i64 a, .int .i64 b, .int .i64 c, .int .i64 d] 25)).alloc (Obj.cells #[.int .i64 0, .int .i64 0] 23)).cell? ⟨w.heap.size, 1, none⟩ = some (.int .i64 b) ∧ ((w.alloc (Obj.cells #[.int .i64 a, .int .i64 b, .int .i64 c, .int .i64 d] 25)).alloc (Obj.cells #[.int .i64 0, .int .i64 0] 23)).cell? ⟨w.heap.size, 2, none⟩ = some (.int .i64 c) ∧ ((w.alloc (Obj.cells #[.int .i64 a, .int .i64 b, .int .i64 c, .int .i64 d] 25)).alloc (Obj.cells #[.int .i64 0, .int .i64 0] 23)).cell? ⟨w.heap.size, 3, none⟩ = some (.int .i64 d) := by refine ⟨?_, ?_, ?_, ?_⟩ <;> go_cell
  have hr0 : ((w.alloc (Obj.cells #[.int .i64 a, .int .i64 b, .int .i64 c, .int .i64 d] 25)).alloc (Obj.cells #[.int .i64 0, .int .i64 0] 23)).cell? ⟨w.heap.size + 1, 0, none⟩ = some (.int .i64 0) ∧ ((w.alloc (Obj.cells #[.int .i64 a, .int .i64 b, .int .i64 c, .int .i64 d] 25)).alloc (Obj.cells #[.int .i64 0, .int .i64 0] 23)).cell? ⟨w.heap.size + 1, 1, none⟩ = some (.int .i64 0) ∧ ((w.alloc (Obj.cells #[.int .i64 a, .int .i64 b, .int .i64 c, .int .i64 d] 25)).alloc (Obj.cells #[.int .i64 0, .int .i64 0] 23)).frozen? ⟨w.heap.size + 1, 0, none⟩ = false ∧ ((w.alloc (Obj.cells #[.int .i64 a, .int .i64 b, .int .i64 c, .int .i64 d] 25)).alloc (Obj.cells #[.int .i64 0, .int .i64 0] 23)).frozen? ⟨w.heap.size + 1, 1, none⟩ = false := by refine ⟨?_, ?_, ?_, ?_⟩ <;> go_cell
  have hsz : w.heap.size + 1 < ((w.alloc (Obj.cells #[.int .i64 a, .int .i64 b, .int .i64 c, .int .i64 d] 25)).alloc (Obj.cells #[.int .i64 0, .int .i64 0] 23)).heap.size := by simp
  generalize ((w.alloc (Obj.cells #[.int .i64 a, .int .i64 b, .int .i64 c, .int .i64 d] 25)).alloc (Obj.cells #[.int .i64 0, .int .i64 0] 23)) = W at *
  have hsz0 : w.heap.size < W.heap.size := by omega
  have V0 : ∀ (e : Int) w', Wk g e W.heap.size W w' → w'.cell? ⟨w.heap.size, 0, none⟩ = some (.int .i64 a) ∧ w'.cell? ⟨w.heap.size, 1, none⟩ = some (.int .i64 b) ∧ w'.cell? ⟨w.heap.size, 2, none⟩ = some (.int .i64 c) ∧ w'.cell? ⟨w.heap.size, 3, none⟩ = some (.int .i64 d) := fun e w' hb => by
    have e0 := fun o' => hb.cells.1 (w.heap.size) o' (by omega) (by omega)
    rw [e0, e0, e0, e0]
    exact hs0
  have V1 : ∀ (e : Int) w', Wk g e W.heap.size W w' → (w'.cell? ⟨w.heap.size + 1, 0, none⟩ = some (.int .i64 0) ∧ w'.cell? ⟨w.heap.size + 1, 1, none⟩ = some (.int .i64 0) ∧ w'.frozen? ⟨w.heap.size + 1, 0, none⟩ = false ∧ w'.frozen? ⟨w.heap.size + 1, 1, none⟩ = false) := fun e w' hb => by
    have e0 := fun o' => hb.cells.1 (w.heap.size + 1) o' (by omega) (by omega)
    have e1 := fun o' => hb.cells.2 (w.heap.size + 1) o' (by omega) (by omega)
    rw [e0, e0, e1, e1]
    exact hr0
  have G0 := Lib.hid V0
  have G1 := Lib.hid V1
  have HD : Wk g e0 W.heap.size W W.drew := ⟨rfl, rfl, rfl, Nat.le_refl _, fun _ _ _ => rfl, hc0, hf0⟩
  have HW0 := Lib.hid (Wk.of_below hb0 hc0 hf0)
  clear V0 V1 hb0 hs0 hr0 hc hf hc0 hf0
  refine wp_region_held_drew (S := fun w' => w'.cell? ⟨w.heap.size, 0, none⟩ = some (.int .i64 a) ∧ w'.cell? ⟨w.heap.size, 1, none⟩ = some (.int .i64 b) ∧ w'.cell? ⟨w.heap.size, 2, none⟩ = some (.int .i64 c) ∧ w'.cell? ⟨w.heap.size, 3, none⟩ = some (.int .i64 d)) (by kernel_rfl) (G0.out _ _ HD) (fun hHeld => ?_)
  refine wpAnyH_take (i := 0) (oi := _) (v := ?_) rfl (by kernel_rfl) (by kernel_rfl) (by kernel_rfl) (fun _ _ _ h => h) (Or.inl ⟨by rfl, ?_⟩) (by assumption) ?_
  rotate_left
  · intro w hSw; obtain ⟨_, _, _, _⟩ := hSw; go_simp; (try with_reducible rfl)
  try change wpAnyH _ _ _ _ _ _ _ (Act.put _ (some 5) _) _
  try simp only [act_all]
  refine wpAnyH_take (i := 1) (oi := _) (v := ?_) rfl (by kernel_rfl) (by kernel_rfl) (by kernel_rfl) (fun _ _ _ h => h) (Or.inl ⟨by rfl, ?_⟩) (by assumption) ?_
  rotate_left
  · intro w hSw; obtain ⟨_, _, _, _⟩ := hSw; go_simp; (try with_reducible rfl)
  try change wpAnyH _ _ _ _ _ _ _ (Act.put _ (some 6) _) _
  try simp only [act_all]
  refine wpAnyH_take (i := 2) (oi := _) (v := ?_) rfl (by kernel_rfl) (by kernel_rfl) (by kernel_rfl) (fun _ _ _ h => h) (Or.inl ⟨by rfl, ?_⟩) (by assumption) ?_
  rotate_left
  · intro w hSw; obtain ⟨_, _, _, _⟩ := hSw; go_simp; (try with_reducible rfl)
  try change wpAnyH _ _ _ _ _ _ _ (Act.put _ (some 7) _) _
  try simp only [act_all]
  refine wpAnyH_take (i := 3) (oi := _) (v := ?_) rfl (by kernel_rfl) (by kernel_rfl) (by kernel_rfl) (fun _ _ _ h => h) (Or.inl ⟨by rfl, ?_⟩) (by assumption) ?_
  rotate_left
  · intro w hSw; obtain ⟨_, _, _, _⟩ := hSw; go_simp; (try with_reducible rfl)
  try change wpAnyH _ _ _ _ _ _ _ (Act.put _ (some 8) _) _
  try simp only [act_all]
  refine wpAnyH_take (i := 5) (oi := _) (v := ?_) rfl (by kernel_rfl) (by kernel_rfl) (by kernel_rfl) (fun _ _ _ h => h) (Or.inl ⟨by rfl, ?_⟩) (by assumption) ?_
  rotate_left
  · intro w hSw; obtain ⟨_, _, _, _⟩ := hSw; go_simp; (try with_reducible rfl)
  try change wpAnyH _ _ _ _ _ _ _ (Act.put _ (some 10) _) _
  try simp only [act_all]
  refine wpAnyH_take (i := 6) (oi := _) (v := ?_) rfl (by kernel_rfl) (by kernel_rfl) (by kernel_rfl) (fun _ _ _ h => h) (Or.inl ⟨by rfl, ?_⟩) (by assumption) ?_
  rotate_left
  · intro w hSw; obtain ⟨_, _, _, _⟩ := hSw; go_simp; (try with_reducible rfl)
  try change wpAnyH _ _ _ _ _ _ _ (Act.put _ (some 11) _) _
  try simp only [act_all]
  refine wpAnyH_take (i := 7) (oi := _) (v := ?_) rfl (by kernel_rfl) (by kernel_rfl) (by kernel_rfl) (fun _ _ _ h => h) (Or.inl ⟨by rfl, ?_⟩) (by assumption) ?_
  rotate_left
  · intro w hSw; obtain ⟨_, _, _, _⟩ := hSw; go_simp; (try with_reducible rfl)
  try change wpAnyH _ _ _ _ _ _ _ (Act.put _ (some 12) _) _
  try simp only [act_all]
  refine wpAnyH_ready (rs := [4]) (by kernel_rfl) (by simp) ?_
  refine AllReadyH.cons (o := _) rfl (fun K hK => ?_) AllReadyH.nil
  go_simp
  refine (rSquare_any a b e0 g _ H1.out HD.cell HD.free).mono ?_
  rintro e wA0 ⟨he, hb⟩
  obtain ⟨r, hr⟩ : ∃ r, (rn e0 (sqS ⟨a, b⟩)) = r := ⟨_, rfl⟩
  rw [hr] at he hb
  obtain ⟨⟨p1, q1⟩, e1⟩ := r
  have HR0 := Lib.hid hr
  have HD0 : Wk g e1 W.heap.size W wA0 := HD.trans (hb.mono HD.size)
  have hzA0 := HD0.size
  clear hb hr hHeld
  obtain rfl : e = .returned (.agg #[.int .i64 p1, .int .i64 q1]) := he
  refine hK.out _ _ (G0.out _ _ HD0) (fun hHeld => ?_)
  clear hK K
  try simp only [act_all]
  refine wpAnyH_ready (rs := [8]) (by kernel_rfl) (by simp) ?_
  refine AllReadyH.cons (o := _) rfl (fun K hK => ?_) AllReadyH.nil
  go_simp
  refine (rSquare_any c d e1 g _ H2.out HD0.cell HD0.free).mono ?_
  rintro e wA1 ⟨he, hb⟩
  obtain ⟨r, hr⟩ : ∃ r, (rn e1 (sqS ⟨c, d⟩)) = r := ⟨_, rfl⟩
  rw [hr] at he hb
  obtain ⟨⟨p2, q2⟩, e2⟩ := r
  have HR1 := Lib.hid hr
  have HD1 : Wk g e2 W.heap.size W wA1 := HD0.trans (hb.mono HD0.size)
  have hzA1 := HD1.size
  clear hb hr hHeld
  obtain rfl : e = .returned (.agg #[.int .i64 p2, .int .i64 q2]) := he
  refine hK.out _ _ (G0.out _ _ HD1) (fun hHeld => ?_)
  clear hK K
  try simp only [act_all]
  refine wpAnyH_ready (rs := [9]) (by kernel_rfl) (by simp) ?_
  refine AllReadyH.cons (o := _) rfl (fun K hK => ?_) AllReadyH.nil
  go_simp
  refine (rSum_any p1 q1 p2 q2 e2 g _ (rn_okS HR0.out (fun _ h => sqS_ok h)) (rn_okS HR1.out (fun _ h => sqS_ok h)) HD1.cell HD1.free).mono ?_
  rintro e wA2 ⟨he, hb⟩
  obtain ⟨r, hr⟩ : ∃ r, (rn e2 (addS ⟨p1, q1⟩ ⟨p2, q2⟩)) = r := ⟨_, rfl⟩
  rw [hr] at he hb
  obtain ⟨⟨p3, q3⟩, e3⟩ := r
  have HR2 := Lib.hid hr
  have HD2 : Wk g e3 W.heap.size W wA2 := HD1.trans (hb.mono HD1.size)
  have hzA2 := HD2.size
  clear hb hr hHeld
  obtain rfl : e = .returned (.agg #[.int .i64 p3, .int .i64 q3]) := he
  refine hK.out _ _ (G0.out _ _ HD2) (fun hHeld => ?_)
  clear hK K
  try simp only [act_all]
  refine wpAnyH_ready (rs := [10]) (by kernel_rfl) (by simp) ?_
  refine AllReadyH.cons (o := _) rfl (fun K hK => ?_) AllReadyH.nil
  obtain ⟨_, _, _, _⟩ := G0.out _ _ HD2
  obtain ⟨_, _, _, _⟩ := G1.out _ _ HD2
  go_simp
  refine hK.out _ _ (by refine ⟨?_, ?_, ?_, ?_⟩ <;> go_cell) (fun hHeld => ?_)
  clear hK K
  try simp only [act_all]
  refine wpAnyH_done (by kernel_rfl) ?_ _
  have HN : Hid (SP = (⟨p3, q3⟩, e3)) := Lib.hid (by rw [← HSP.out]; simp only [powW, HR0.out, HR1.out, HR2.out]; (try rfl))
  have HWF := Lib.hid (HW0.out.trans (HD2.mono HW0.out.size))
  have DL : Below w.heap.size wA2 wA2 := Below.refl _ _
  go_wp2_with fail
  refine bodyPost_ret (v := .agg #[.int .i64 p3, .int .i64 q3]) (by simp [results, Try.results81, go_sem, *]) rfl ⟨?_, ?_⟩
  · rw [HN.out]; rfl
  · rw [HN.out]; exact HWF.out.then (by go_grown) hg

end Go.Proofs.Ytgbnpnenejgnnaa
