import Derived.Test.YtilclpldfoifkaaMj
import Derived.Deep.DeepCutAuto
namespace Go.Proofs.Ytilclpldfoifkaa
open Go.RowKit Encl

set_option maxRecDepth 100000 in
set_option maxHeartbeats 8000000 in
theorem rMeet_any (a b c d s t u v p q p' q' me : Int) (mb : Bool) (w : World) (hm : meetRS ⟨⟨a, b⟩, ⟨c, d⟩⟩ ⟨⟨s, t⟩, ⟨u, v⟩⟩ = (⟨⟨p, q⟩, ⟨p', q'⟩⟩, mb, me)) :
    Calls Try.prog 25 #[.agg #[.int .i64 a, .int .i64 b, .int .i64 c, .int .i64 d], .agg #[.int .i64 s, .int .i64 t, .int .i64 u, .int .i64 v]] w fun e w' => e = .returned (.tuple #[.agg #[.int .i64 p, .int .i64 q, .int .i64 p', .int .i64 q'], .bool mb, .int .i64 me]) ∧ Below w.heap.size w w' := by
  have HSP := Lib.hid hm
  clear hm
  obtain ⟨b1, hb1⟩ : ∃ bb, okR ⟨⟨a, b⟩, ⟨c, d⟩⟩ = bb := ⟨_, rfl⟩
  obtain ⟨b2, hb2⟩ : ∃ bb, okR ⟨⟨s, t⟩, ⟨u, v⟩⟩ = bb := ⟨_, rfl⟩
  obtain ⟨p1, q1, hm1⟩ : ∃ p1 q1, meetS ⟨a, b⟩ ⟨s, t⟩ = ⟨p1, q1⟩ := ⟨_, _, rfl⟩
  obtain ⟨p2, q2, hm2⟩ : ∃ p1 q1, meetS ⟨c, d⟩ ⟨u, v⟩ = ⟨p1, q1⟩ := ⟨_, _, rfl⟩
  obtain ⟨b3, hb3⟩ : ∃ bb, okR ⟨⟨p1, q1⟩, ⟨p2, q2⟩⟩ = bb := ⟨_, rfl⟩
  have HN : Hid (meetRS ⟨⟨a, b⟩, ⟨c, d⟩⟩ ⟨⟨s, t⟩, ⟨u, v⟩⟩ = if (b1 && b2) = true then (if b3 = true then (⟨⟨p1, q1⟩, ⟨p2, q2⟩⟩, true, 0) else (R0, false, 0)) else (R0, false, 50)) := Lib.hid (by unfold meetRS meetR; rw [two_iff, hb1, hb2]; simp only; rw [hm1, hm2, hb3])
  have HB1 := Lib.hid hb1
  have HB2 := Lib.hid hb2
  have HB3 := Lib.hid hb3
  have HM1 := Lib.hid hm1
  have HM2 := Lib.hid hm2
  clear hb1 hb2 hb3 hm1 hm2
  go_enter Try.func25, Try.ntmps25
  go_wp2_with fail
  refine (rValidRect_any a b c d _).mono ?_
  rw [HB1.out]
  rintro e w1 ⟨rfl, hb⟩
  have D1 : Below w.heap.size w w1 := Below.trans (by go_grown) (hb.mono (by first | omega | (simp; done) | (simp; omega)))
  have s1 : w.heap.size + 1 + 1 < w1.heap.size := by have hs := hb.size; (try simp at hs); omega
  obtain ⟨k1, k2⟩ := bcl hb
  have x00 := (k1 (w.heap.size) 0 (by first | omega | (simp; done) | (simp; omega))).trans (by go_cell : _ = some (.int .i64 a))
  have x01 := (k1 (w.heap.size) 1 (by first | omega | (simp; done) | (simp; omega))).trans (by go_cell : _ = some (.int .i64 b))
  have x02 := (k1 (w.heap.size) 2 (by first | omega | (simp; done) | (simp; omega))).trans (by go_cell : _ = some (.int .i64 c))
  have x03 := (k1 (w.heap.size) 3 (by first | omega | (simp; done) | (simp; omega))).trans (by go_cell : _ = some (.int .i64 d))
  have x10 := (k1 (w.heap.size + 1) 0 (by first | omega | (simp; done) | (simp; omega))).trans (by go_cell : _ = some (.int .i64 s))
  have x11 := (k1 (w.heap.size + 1) 1 (by first | omega | (simp; done) | (simp; omega))).trans (by go_cell : _ = some (.int .i64 t))
  have x12 := (k1 (w.heap.size + 1) 2 (by first | omega | (simp; done) | (simp; omega))).trans (by go_cell : _ = some (.int .i64 u))
  have x13 := (k1 (w.heap.size + 1) 3 (by first | omega | (simp; done) | (simp; omega))).trans (by go_cell : _ = some (.int .i64 v))
  have d10 := (k1 (w.heap.size + 1 + 1) 0 (by first | omega | (simp; done) | (simp; omega))).trans (by go_cell : _ = some (.int .i64 0))
  have d11 := (k1 (w.heap.size + 1 + 1) 1 (by first | omega | (simp; done) | (simp; omega))).trans (by go_cell : _ = some (.int .i64 0))
  have d12 := (k1 (w.heap.size + 1 + 1) 2 (by first | omega | (simp; done) | (simp; omega))).trans (by go_cell : _ = some (.int .i64 0))
  have d13 := (k1 (w.heap.size + 1 + 1) 3 (by first | omega | (simp; done) | (simp; omega))).trans (by go_cell : _ = some (.int .i64 0))
  have f10 := (k2 (w.heap.size + 1 + 1) 0 (by first | omega | (simp; done) | (simp; omega))).trans (by go_cell : _ = false)
  have f11 := (k2 (w.heap.size + 1 + 1) 1 (by first | omega | (simp; done) | (simp; omega))).trans (by go_cell : _ = false)
  have f12 := (k2 (w.heap.size + 1 + 1) 2 (by first | omega | (simp; done) | (simp; omega))).trans (by go_cell : _ = false)
  have f13 := (k2 (w.heap.size + 1 + 1) 3 (by first | omega | (simp; done) | (simp; omega))).trans (by go_cell : _ = false)
  clear hb k1 k2
  cases b1 with
  | false =>
    have hq := HSP.out
    rw [HN.out, if_neg (by simp)] at hq
    (try simp only [R0, S0] at hq)
    simp only [Prod.mk.injEq, Rc.mk.injEq, Sp.mk.injEq] at hq
    obtain ⟨⟨⟨rfl, rfl⟩, rfl, rfl⟩, rfl, rfl⟩ := hq
    clear HSP HN
    go_wp2_with fail
    refine bodyPost_ret (v := .tuple #[.agg #[.int .i64 0, .int .i64 0, .int .i64 0, .int .i64 0], .bool false, .int .i64 50]) (by simp [results, Try.results25, go_sem, *]) rfl ⟨rfl, by go_grown⟩
  | true =>
  go_wp2_with fail
  refine (rValidRect_any s t u v _).mono ?_
  rw [HB2.out]
  rintro e w2 ⟨rfl, hb⟩
  have D2 := D1.trans (hb.mono D1.size)
  have s2 : w.heap.size + 1 + 1 < w2.heap.size := by have hs := hb.size; omega
  obtain ⟨k1, k2⟩ := bcl hb
  have y00 := (k1 (w.heap.size) 0 (by omega)).trans x00
  have y01 := (k1 (w.heap.size) 1 (by omega)).trans x01
  have y02 := (k1 (w.heap.size) 2 (by omega)).trans x02
  have y03 := (k1 (w.heap.size) 3 (by omega)).trans x03
  have y10 := (k1 (w.heap.size + 1) 0 (by omega)).trans x10
  have y11 := (k1 (w.heap.size + 1) 1 (by omega)).trans x11
  have y12 := (k1 (w.heap.size + 1) 2 (by omega)).trans x12
  have y13 := (k1 (w.heap.size + 1) 3 (by omega)).trans x13
  have yd0 := (k1 (w.heap.size + 1 + 1) 0 (by omega)).trans d10
  have yf0 := (k2 (w.heap.size + 1 + 1) 0 (by omega)).trans f10
  have yd1 := (k1 (w.heap.size + 1 + 1) 1 (by omega)).trans d11
  have yf1 := (k2 (w.heap.size + 1 + 1) 1 (by omega)).trans f11
  have yd2 := (k1 (w.heap.size + 1 + 1) 2 (by omega)).trans d12
  have yf2 := (k2 (w.heap.size + 1 + 1) 2 (by omega)).trans f12
  have yd3 := (k1 (w.heap.size + 1 + 1) 3 (by omega)).trans d13
  have yf3 := (k2 (w.heap.size + 1 + 1) 3 (by omega)).trans f13
  clear hb k1 k2 D1 x00 x01 x02 x03 x10 x11 x12 x13 d10 f10 d11 f11 d12 f12 d13 f13
  cases b2 with
  | false =>
    have hq := HSP.out
    rw [HN.out, if_neg (by simp)] at hq
    (try simp only [R0, S0] at hq)
    simp only [Prod.mk.injEq, Rc.mk.injEq, Sp.mk.injEq] at hq
    obtain ⟨⟨⟨rfl, rfl⟩, rfl, rfl⟩, rfl, rfl⟩ := hq
    clear HSP HN
    go_wp2_with fail
    refine bodyPost_ret (v := .tuple #[.agg #[.int .i64 0, .int .i64 0, .int .i64 0, .int .i64 0], .bool false, .int .i64 50]) (by simp [results, Try.results25, go_sem, *]) rfl ⟨rfl, by go_grown⟩
  | true =>
  go_upto_region 3 with fail
  obtain ⟨W, hWr⟩ : ∃ W, W = w2 := ⟨_, rfl⟩
  subst hWr
  have HD : Below W.heap.size W W := Below.refl _ _
  have HB0 := Lib.hid D2
  have G0 : Hid (∀ w', Below W.heap.size W w' → w'.cell? ⟨w.heap.size, 0, none⟩ = some (.int .i64 a) ∧ w'.cell? ⟨w.heap.size, 1, none⟩ = some (.int .i64 b) ∧ w'.cell? ⟨w.heap.size, 2, none⟩ = some (.int .i64 c) ∧ w'.cell? ⟨w.heap.size, 3, none⟩ = some (.int .i64 d) ∧ w'.cell? ⟨w.heap.size + 1, 0, none⟩ = some (.int .i64 s) ∧ w'.cell? ⟨w.heap.size + 1, 1, none⟩ = some (.int .i64 t) ∧ w'.cell? ⟨w.heap.size + 1, 2, none⟩ = some (.int .i64 u) ∧ w'.cell? ⟨w.heap.size + 1, 3, none⟩ = some (.int .i64 v)) := Lib.hid (fun w' hb => by
    have e0 := fun o' => hb.cell (p := ⟨w.heap.size, o', none⟩) (by simp only; omega)
    have e1 := fun o' => hb.cell (p := ⟨w.heap.size + 1, o', none⟩) (by simp only; omega)
    exact ⟨(e0 _).trans y00, (e0 _).trans y01, (e0 _).trans y02, (e0 _).trans y03, (e1 _).trans y10, (e1 _).trans y11, (e1 _).trans y12, (e1 _).trans y13⟩)
  have G1 : Hid (∀ w', Below W.heap.size W w' → w'.cell? ⟨w.heap.size + 1 + 1, 0, none⟩ = some (.int .i64 0) ∧ w'.cell? ⟨w.heap.size + 1 + 1, 1, none⟩ = some (.int .i64 0) ∧ w'.cell? ⟨w.heap.size + 1 + 1, 2, none⟩ = some (.int .i64 0) ∧ w'.cell? ⟨w.heap.size + 1 + 1, 3, none⟩ = some (.int .i64 0) ∧ w'.frozen? ⟨w.heap.size + 1 + 1, 0, none⟩ = false ∧ w'.frozen? ⟨w.heap.size + 1 + 1, 1, none⟩ = false ∧ w'.frozen? ⟨w.heap.size + 1 + 1, 2, none⟩ = false ∧ w'.frozen? ⟨w.heap.size + 1 + 1, 3, none⟩ = false) := Lib.hid (fun w' hb => by
    have e0 := fun o' => hb.cell (p := ⟨w.heap.size + 1 + 1, o', none⟩) (by simp only; omega)
    have e1 := fun o' => hb.frozen (p := ⟨w.heap.size + 1 + 1, o', none⟩) (by simp only; omega)
    exact ⟨(e0 _).trans yd0, (e0 _).trans yd1, (e0 _).trans yd2, (e0 _).trans yd3, (e1 _).trans yf0, (e1 _).trans yf1, (e1 _).trans yf2, (e1 _).trans yf3⟩)
  clear y00 y01 y02 y03 y10 y11 y12 y13 yd0 yf0 yd1 yf1 yd2 yf2 yd3 yf3 D2
  have HD1 : Below W.heap.size W W.drew := HD.drew
  refine wp_region_held_drew (S := fun w' => w'.cell? ⟨w.heap.size, 0, none⟩ = some (.int .i64 a) ∧ w'.cell? ⟨w.heap.size, 1, none⟩ = some (.int .i64 b) ∧ w'.cell? ⟨w.heap.size, 2, none⟩ = some (.int .i64 c) ∧ w'.cell? ⟨w.heap.size, 3, none⟩ = some (.int .i64 d) ∧ w'.cell? ⟨w.heap.size + 1, 0, none⟩ = some (.int .i64 s) ∧ w'.cell? ⟨w.heap.size + 1, 1, none⟩ = some (.int .i64 t) ∧ w'.cell? ⟨w.heap.size + 1, 2, none⟩ = some (.int .i64 u) ∧ w'.cell? ⟨w.heap.size + 1, 3, none⟩ = some (.int .i64 v)) (by kernel_rfl) (G0.out _ HD1) (fun hHeld => ?_)
  refine wpAnyH_take (i := 0) (oi := _) (v := ?_) rfl (by kernel_rfl) (by kernel_rfl) (by kernel_rfl) (fun _ _ _ h => h) (Or.inl ⟨by rfl, ?_⟩) (by assumption) ?_
  rotate_left
  · intro w hSw; obtain ⟨_, _, _, _, _, _, _, _⟩ := hSw; go_simp; (try with_reducible rfl)
  try change wpAnyH _ _ _ _ _ _ _ (Act.put _ (some 17) _) _
  try simp only [act_all]
  refine wpAnyH_take (i := 1) (oi := _) (v := ?_) rfl (by kernel_rfl) (by kernel_rfl) (by kernel_rfl) (fun _ _ _ h => h) (Or.inl ⟨by rfl, ?_⟩) (by assumption) ?_
  rotate_left
  · intro w hSw; obtain ⟨_, _, _, _, _, _, _, _⟩ := hSw; go_simp; (try with_reducible rfl)
  try change wpAnyH _ _ _ _ _ _ _ (Act.put _ (some 18) _) _
  try simp only [act_all]
  refine wpAnyH_take (i := 2) (oi := _) (v := ?_) rfl (by kernel_rfl) (by kernel_rfl) (by kernel_rfl) (fun _ _ _ h => h) (Or.inl ⟨by rfl, ?_⟩) (by assumption) ?_
  rotate_left
  · intro w hSw; obtain ⟨_, _, _, _, _, _, _, _⟩ := hSw; go_simp; (try with_reducible rfl)
  try change wpAnyH _ _ _ _ _ _ _ (Act.put _ (some 19) _) _
  try simp only [act_all]
  refine wpAnyH_take (i := 3) (oi := _) (v := ?_) rfl (by kernel_rfl) (by kernel_rfl) (by kernel_rfl) (fun _ _ _ h => h) (Or.inl ⟨by rfl, ?_⟩) (by assumption) ?_
  rotate_left
  · intro w hSw; obtain ⟨_, _, _, _, _, _, _, _⟩ := hSw; go_simp; (try with_reducible rfl)
  try change wpAnyH _ _ _ _ _ _ _ (Act.put _ (some 20) _) _
  try simp only [act_all]
  refine wpAnyH_take (i := 5) (oi := _) (v := ?_) rfl (by kernel_rfl) (by kernel_rfl) (by kernel_rfl) (fun _ _ _ h => h) (Or.inl ⟨by rfl, ?_⟩) (by assumption) ?_
  rotate_left
  · intro w hSw; obtain ⟨_, _, _, _, _, _, _, _⟩ := hSw; go_simp; (try with_reducible rfl)
  try change wpAnyH _ _ _ _ _ _ _ (Act.put _ (some 22) _) _
  try simp only [act_all]
  refine wpAnyH_take (i := 6) (oi := _) (v := ?_) rfl (by kernel_rfl) (by kernel_rfl) (by kernel_rfl) (fun _ _ _ h => h) (Or.inl ⟨by rfl, ?_⟩) (by assumption) ?_
  rotate_left
  · intro w hSw; obtain ⟨_, _, _, _, _, _, _, _⟩ := hSw; go_simp; (try with_reducible rfl)
  try change wpAnyH _ _ _ _ _ _ _ (Act.put _ (some 23) _) _
  try simp only [act_all]
  refine wpAnyH_take (i := 7) (oi := _) (v := ?_) rfl (by kernel_rfl) (by kernel_rfl) (by kernel_rfl) (fun _ _ _ h => h) (Or.inl ⟨by rfl, ?_⟩) (by assumption) ?_
  rotate_left
  · intro w hSw; obtain ⟨_, _, _, _, _, _, _, _⟩ := hSw; go_simp; (try with_reducible rfl)
  try change wpAnyH _ _ _ _ _ _ _ (Act.put _ (some 24) _) _
  try simp only [act_all]
  refine wpAnyH_take (i := 8) (oi := _) (v := ?_) rfl (by kernel_rfl) (by kernel_rfl) (by kernel_rfl) (fun _ _ _ h => h) (Or.inl ⟨by rfl, ?_⟩) (by assumption) ?_
  rotate_left
  · intro w hSw; obtain ⟨_, _, _, _, _, _, _, _⟩ := hSw; go_simp; (try with_reducible rfl)
  try change wpAnyH _ _ _ _ _ _ _ (Act.put _ (some 25) _) _
  try simp only [act_all]
  refine wpAnyH_ready (rs := [4, 11]) (by kernel_rfl) (by simp) ?_
  refine AllReadyH.cons (o := _) rfl (fun K hK => ?_) ?_
  · go_simp
    refine ((rCommon_any a b s t _).mono (fun e w' h => (by obtain ⟨h1, h2⟩ := h; exact ⟨by rw [HM1.out] at h1; exact h1, h2⟩ : (e = retS ⟨p1, q1⟩ ∧ Below _ _ w')))).mono ?_
    rintro e w2 ⟨he, hb⟩
    have HD2 : Below W.heap.size W w2 := Below.trans HD1 (hb.mono HD1.size)
    have hz2 := HD2.size
    have DA2 := HB0.out.trans (HD2.mono (show w.heap.size ≤ W.heap.size by omega))
    clear hb hHeld
    obtain rfl : e = .returned (.agg #[.int .i64 p1, .int .i64 q1]) := he
    refine hK.out _ _ (G0.out _ HD2) (fun hHeld => ?_)
    clear hK K
    try simp only [act_all]
    refine wpAnyH_ready (rs := [9, 11]) (by kernel_rfl) (by simp) ?_
    refine AllReadyH.cons (o := _) rfl (fun K hK => ?_) ?_
    · go_simp
      refine ((rCommon_any c d u v _).mono (fun e w' h => (by obtain ⟨h1, h2⟩ := h; exact ⟨by rw [HM2.out] at h1; exact h1, h2⟩ : (e = retS ⟨p2, q2⟩ ∧ Below _ _ w')))).mono ?_
      rintro e w3 ⟨he, hb⟩
      have HD3 : Below W.heap.size W w3 := Below.trans HD2 (hb.mono HD2.size)
      have hz3 := HD3.size
      have DA3 := HB0.out.trans (HD3.mono (show w.heap.size ≤ W.heap.size by omega))
      clear hb hHeld
      obtain rfl : e = .returned (.agg #[.int .i64 p2, .int .i64 q2]) := he
      refine hK.out _ _ (G0.out _ HD3) (fun hHeld => ?_)
      clear hK K
      try simp only [act_all]
      refine wpAnyH_take (i := 10) (oi := _) (v := ?_) rfl (by kernel_rfl) (by kernel_rfl) (by kernel_rfl) (fun _ _ _ h => h) (Or.inl ⟨by rfl, ?_⟩) (by assumption) ?_
      rotate_left
      · intro w hSw; obtain ⟨_, _, _, _, _, _, _, _⟩ := hSw; go_simp; (try with_reducible rfl)
      try change wpAnyH _ _ _ _ _ _ _ (Act.put _ (some 27) _) _
      try simp only [act_all]
      refine wpAnyH_ready (rs := [11]) (by kernel_rfl) (by simp) ?_
      refine AllReadyH.cons (o := _) rfl (fun K hK => ?_) AllReadyH.nil
      have HD4 : Below W.heap.size W (w3.alloc (Obj.cells #[.int .i64 0, .int .i64 0, .int .i64 0, .int .i64 0] 25)) := bal HD3 _
      go_simp
      refine hK.out _ _ (G0.out _ HD4) (fun hHeld => ?_)
      clear hK K
      try simp only [act_all]
      refine wpAnyH_ready (rs := [12]) (by kernel_rfl) (by simp) ?_
      refine AllReadyH.cons (o := _) rfl (fun K hK => ?_) AllReadyH.nil
      obtain ⟨_, _, _, _, _, _, _, _⟩ := G0.out _ HD3
      obtain ⟨_, _, _, _, _, _, _, _⟩ := G1.out _ HD3
      have nb11 : w.heap.size < w3.heap.size := by omega
      have nx11 : ¬ w3.heap.size = w.heap.size := by omega
      have nb15 : w.heap.size + 1 < w3.heap.size := by omega
      have nx15 : ¬ w3.heap.size = w.heap.size + 1 := by omega
      have nb19 : w.heap.size + 1 + 1 < w3.heap.size := by omega
      have nx19 : ¬ w3.heap.size = w.heap.size + 1 + 1 := by omega
      go_simp
      refine hK.out _ _ (by refine ⟨?_, ?_, ?_, ?_, ?_, ?_, ?_, ?_⟩ <;> go_cell) (fun hHeld => ?_)
      clear hK K
      try simp only [act_all]
      refine wpAnyH_done (by kernel_rfl) ?_ _
      go_wp2_with fail
      refine (rValidRect_any p1 q1 p2 q2 _).mono ?_
      rw [HB3.out]
      rintro e wz ⟨rfl, hb⟩
      have DAZ := HB0.out
      have DZ : Below w.heap.size w wz := Below.trans (by go_grown) (hb.mono (by have := HD3.size; have := HB0.out.size; simp; omega))
      have sz1 : w.heap.size + 1 + 1 < wz.heap.size := by have hs := hb.size; (try simp at hs); omega
      have sz2 : w3.heap.size < wz.heap.size := by have hs := hb.size; (try simp at hs); omega
      obtain ⟨k1, k2⟩ := bcl hb
      have rz0 := (k1 (w.heap.size + 1 + 1) 0 (by first | omega | (simp; done) | (simp; omega))).trans (by go_cell : _ = some (.int .i64 0))
      have fz0 := (k2 (w.heap.size + 1 + 1) 0 (by first | omega | (simp; done) | (simp; omega))).trans (by go_cell : _ = false)
      have cz0 := (k1 (w3.heap.size) 0 (by first | omega | (simp; done) | (simp; omega))).trans (by go_cell : _ = some (.int .i64 p1))
      have rz1 := (k1 (w.heap.size + 1 + 1) 1 (by first | omega | (simp; done) | (simp; omega))).trans (by go_cell : _ = some (.int .i64 0))
      have fz1 := (k2 (w.heap.size + 1 + 1) 1 (by first | omega | (simp; done) | (simp; omega))).trans (by go_cell : _ = false)
      have cz1 := (k1 (w3.heap.size) 1 (by first | omega | (simp; done) | (simp; omega))).trans (by go_cell : _ = some (.int .i64 q1))
      have rz2 := (k1 (w.heap.size + 1 + 1) 2 (by first | omega | (simp; done) | (simp; omega))).trans (by go_cell : _ = some (.int .i64 0))
      have fz2 := (k2 (w.heap.size + 1 + 1) 2 (by first | omega | (simp; done) | (simp; omega))).trans (by go_cell : _ = false)
      have cz2 := (k1 (w3.heap.size) 2 (by first | omega | (simp; done) | (simp; omega))).trans (by go_cell : _ = some (.int .i64 p2))
      have rz3 := (k1 (w.heap.size + 1 + 1) 3 (by first | omega | (simp; done) | (simp; omega))).trans (by go_cell : _ = some (.int .i64 0))
      have fz3 := (k2 (w.heap.size + 1 + 1) 3 (by first | omega | (simp; done) | (simp; omega))).trans (by go_cell : _ = false)
      have cz3 := (k1 (w3.heap.size) 3 (by first | omega | (simp; done) | (simp; omega))).trans (by go_cell : _ = some (.int .i64 q2))
      clear hb k1 k2
      cases b3 with
      | false =>
        have hq := HSP.out
        rw [HN.out, if_pos (show (true && true) = true from rfl), if_neg (by decide)] at hq
        (try simp only [R0, S0] at hq)
        simp only [Prod.mk.injEq, Rc.mk.injEq, Sp.mk.injEq] at hq
        obtain ⟨⟨⟨rfl, rfl⟩, rfl, rfl⟩, rfl, rfl⟩ := hq
        clear HSP HN
        go_wp2_with fail
        refine bodyPost_ret (v := .tuple #[.agg #[.int .i64 0, .int .i64 0, .int .i64 0, .int .i64 0], .bool false, .int .i64 0]) (by simp [results, Try.results25, go_sem, *]) rfl ⟨rfl, by go_grown⟩
      | true =>
        have hq := HSP.out
        rw [HN.out, if_pos (show (true && true) = true from rfl), if_pos rfl] at hq
        (try simp only [R0, S0] at hq)
        simp only [Prod.mk.injEq, Rc.mk.injEq, Sp.mk.injEq] at hq
        obtain ⟨⟨⟨rfl, rfl⟩, rfl, rfl⟩, rfl, rfl⟩ := hq
        clear HSP HN
        go_wp2_with fail
        refine bodyPost_ret (v := .tuple #[.agg #[.int .i64 p1, .int .i64 q1, .int .i64 p2, .int .i64 q2], .bool true, .int .i64 0]) (by simp [results, Try.results25, go_sem, *]) rfl ⟨rfl, by go_grown⟩
    refine AllReadyH.cons (o := _) rfl (fun K hK => ?_) AllReadyH.nil
    have HD5 : Below W.heap.size W (w2.alloc (Obj.cells #[.int .i64 0, .int .i64 0, .int .i64 0, .int .i64 0] 25)) := bal HD2 _
    go_simp
    refine hK.out _ _ (G0.out _ HD5) (fun hHeld => ?_)
    clear hK K
    try simp only [act_all]
    refine wpAnyH_ready (rs := [9]) (by kernel_rfl) (by simp) ?_
    refine AllReadyH.cons (o := _) rfl (fun K hK => ?_) AllReadyH.nil
    go_simp
    refine ((rCommon_any c d u v _).mono (fun e w' h => (by obtain ⟨h1, h2⟩ := h; exact ⟨by rw [HM2.out] at h1; exact h1, h2⟩ : (e = retS ⟨p2, q2⟩ ∧ Below _ _ w')))).mono ?_
    rintro e w6 ⟨he, hb⟩
    have HD6 : Below W.heap.size W w6 := Below.trans HD5 (hb.mono HD5.size)
    have hz6 := HD6.size
    have DA6 := HB0.out.trans (HD6.mono (show w.heap.size ≤ W.heap.size by omega))
    have t6_0_0 := (hb.cell (p := ⟨w2.heap.size, 0, none⟩) (by first | omega | (simp; done) | (simp; omega))).trans (by go_cell : _ = some (.int .i64 0))
    have z6_0_0 := (hb.frozen (p := ⟨w2.heap.size, 0, none⟩) (by first | omega | (simp; done) | (simp; omega))).trans (by go_cell : _ = false)
    have t6_0_1 := (hb.cell (p := ⟨w2.heap.size, 1, none⟩) (by first | omega | (simp; done) | (simp; omega))).trans (by go_cell : _ = some (.int .i64 0))
    have z6_0_1 := (hb.frozen (p := ⟨w2.heap.size, 1, none⟩) (by first | omega | (simp; done) | (simp; omega))).trans (by go_cell : _ = false)
    have t6_0_2 := (hb.cell (p := ⟨w2.heap.size, 2, none⟩) (by first | omega | (simp; done) | (simp; omega))).trans (by go_cell : _ = some (.int .i64 0))
    have z6_0_2 := (hb.frozen (p := ⟨w2.heap.size, 2, none⟩) (by first | omega | (simp; done) | (simp; omega))).trans (by go_cell : _ = false)
    have t6_0_3 := (hb.cell (p := ⟨w2.heap.size, 3, none⟩) (by first | omega | (simp; done) | (simp; omega))).trans (by go_cell : _ = some (.int .i64 0))
    have z6_0_3 := (hb.frozen (p := ⟨w2.heap.size, 3, none⟩) (by first | omega | (simp; done) | (simp; omega))).trans (by go_cell : _ = false)
    have l6_0 : w2.heap.size < w6.heap.size := by have hs := hb.size; (try simp at hs); omega
    clear hb hHeld
    obtain rfl : e = .returned (.agg #[.int .i64 p2, .int .i64 q2]) := he
    refine hK.out _ _ (G0.out _ HD6) (fun hHeld => ?_)
    clear hK K
    try simp only [act_all]
    refine wpAnyH_take (i := 10) (oi := _) (v := ?_) rfl (by kernel_rfl) (by kernel_rfl) (by kernel_rfl) (fun _ _ _ h => h) (Or.inl ⟨by rfl, ?_⟩) (by assumption) ?_
    rotate_left
    · intro w hSw; obtain ⟨_, _, _, _, _, _, _, _⟩ := hSw; go_simp; (try with_reducible rfl)
    try change wpAnyH _ _ _ _ _ _ _ (Act.put _ (some 27) _) _
    try simp only [act_all]
    refine wpAnyH_ready (rs := [12]) (by kernel_rfl) (by simp) ?_
    refine AllReadyH.cons (o := _) rfl (fun K hK => ?_) AllReadyH.nil
    obtain ⟨_, _, _, _, _, _, _, _⟩ := G0.out _ HD6
    obtain ⟨_, _, _, _, _, _, _, _⟩ := G1.out _ HD6
    have nb11 : w.heap.size < w6.heap.size := by omega
    have nx11 : ¬ w2.heap.size = w.heap.size := by omega
    have nb15 : w.heap.size + 1 < w6.heap.size := by omega
    have nx15 : ¬ w2.heap.size = w.heap.size + 1 := by omega
    have nb19 : w.heap.size + 1 + 1 < w6.heap.size := by omega
    have nx19 : ¬ w2.heap.size = w.heap.size + 1 + 1 := by omega
    go_simp
    refine hK.out _ _ (by refine ⟨?_, ?_, ?_, ?_, ?_, ?_, ?_, ?_⟩ <;> go_cell) (fun hHeld => ?_)
    clear hK K
    try simp only [act_all]
    refine wpAnyH_done (by kernel_rfl) ?_ _
    go_wp2_with fail
    refine (rValidRect_any p1 q1 p2 q2 _).mono ?_
    rw [HB3.out]
    rintro e wz ⟨rfl, hb⟩
    have DAZ := HB0.out
    have DZ : Below w.heap.size w wz := Below.trans (by go_grown) (hb.mono (by have := HD6.size; have := HB0.out.size; simp; omega))
    have sz1 : w.heap.size + 1 + 1 < wz.heap.size := by have hs := hb.size; (try simp at hs); omega
    have sz2 : w2.heap.size < wz.heap.size := by have hs := hb.size; (try simp at hs); omega
    obtain ⟨k1, k2⟩ := bcl hb
    have rz0 := (k1 (w.heap.size + 1 + 1) 0 (by first | omega | (simp; done) | (simp; omega))).trans (by go_cell : _ = some (.int .i64 0))
    have fz0 := (k2 (w.heap.size + 1 + 1) 0 (by first | omega | (simp; done) | (simp; omega))).trans (by go_cell : _ = false)
    have cz0 := (k1 (w2.heap.size) 0 (by first | omega | (simp; done) | (simp; omega))).trans (by go_cell : _ = some (.int .i64 p1))
    have rz1 := (k1 (w.heap.size + 1 + 1) 1 (by first | omega | (simp; done) | (simp; omega))).trans (by go_cell : _ = some (.int .i64 0))
    have fz1 := (k2 (w.heap.size + 1 + 1) 1 (by first | omega | (simp; done) | (simp; omega))).trans (by go_cell : _ = false)
    have cz1 := (k1 (w2.heap.size) 1 (by first | omega | (simp; done) | (simp; omega))).trans (by go_cell : _ = some (.int .i64 q1))
    have rz2 := (k1 (w.heap.size + 1 + 1) 2 (by first | omega | (simp; done) | (simp; omega))).trans (by go_cell : _ = some (.int .i64 0))
    have fz2 := (k2 (w.heap.size + 1 + 1) 2 (by first | omega | (simp; done) | (simp; omega))).trans (by go_cell : _ = false)
    have cz2 := (k1 (w2.heap.size) 2 (by first | omega | (simp; done) | (simp; omega))).trans (by go_cell : _ = some (.int .i64 p2))
    have rz3 := (k1 (w.heap.size + 1 + 1) 3 (by first | omega | (simp; done) | (simp; omega))).trans (by go_cell : _ = some (.int .i64 0))
    have fz3 := (k2 (w.heap.size + 1 + 1) 3 (by first | omega | (simp; done) | (simp; omega))).trans (by go_cell : _ = false)
    have cz3 := (k1 (w2.heap.size) 3 (by first | omega | (simp; done) | (simp; omega))).trans (by go_cell : _ = some (.int .i64 q2))
    clear hb k1 k2
    cases b3 with
    | false =>
      have hq := HSP.out
      rw [HN.out, if_pos (show (true && true) = true from rfl), if_neg (by decide)] at hq
      (try simp only [R0, S0] at hq)
      simp only [Prod.mk.injEq, Rc.mk.injEq, Sp.mk.injEq] at hq
      obtain ⟨⟨⟨rfl, rfl⟩, rfl, rfl⟩, rfl, rfl⟩ := hq
      clear HSP HN
      go_wp2_with fail
      refine bodyPost_ret (v := .tuple #[.agg #[.int .i64 0, .int .i64 0, .int .i64 0, .int .i64 0], .bool false, .int .i64 0]) (by simp [results, Try.results25, go_sem, *]) rfl ⟨rfl, by go_grown⟩
    | true =>
      have hq := HSP.out
      rw [HN.out, if_pos (show (true && true) = true from rfl), if_pos rfl] at hq
      (try simp only [R0, S0] at hq)
      simp only [Prod.mk.injEq, Rc.mk.injEq, Sp.mk.injEq] at hq
      obtain ⟨⟨⟨rfl, rfl⟩, rfl, rfl⟩, rfl, rfl⟩ := hq
      clear HSP HN
      go_wp2_with fail
      refine bodyPost_ret (v := .tuple #[.agg #[.int .i64 p1, .int .i64 q1, .int .i64 p2, .int .i64 q2], .bool true, .int .i64 0]) (by simp [results, Try.results25, go_sem, *]) rfl ⟨rfl, by go_grown⟩
  refine AllReadyH.cons (o := _) rfl (fun K hK => ?_) AllReadyH.nil
  have HD7 : Below W.heap.size W (W.drew.alloc (Obj.cells #[.int .i64 0, .int .i64 0, .int .i64 0, .int .i64 0] 25)) := bal HD1 _
  go_simp
  refine hK.out _ _ (G0.out _ HD7) (fun hHeld => ?_)
  clear hK K
  try simp only [act_all]
  refine wpAnyH_ready (rs := [4]) (by kernel_rfl) (by simp) ?_
  refine AllReadyH.cons (o := _) rfl (fun K hK => ?_) AllReadyH.nil
  go_simp
  refine ((rCommon_any a b s t _).mono (fun e w' h => (by obtain ⟨h1, h2⟩ := h; exact ⟨by rw [HM1.out] at h1; exact h1, h2⟩ : (e = retS ⟨p1, q1⟩ ∧ Below _ _ w')))).mono ?_
  rintro e w8 ⟨he, hb⟩
  have HD8 : Below W.heap.size W w8 := Below.trans HD7 (hb.mono HD7.size)
  have hz8 := HD8.size
  have DA8 := HB0.out.trans (HD8.mono (show w.heap.size ≤ W.heap.size by omega))
  have t8_0_0 := (hb.cell (p := ⟨W.heap.size, 0, none⟩) (by first | omega | (simp; done) | (simp; omega))).trans (by go_cell : _ = some (.int .i64 0))
  have z8_0_0 := (hb.frozen (p := ⟨W.heap.size, 0, none⟩) (by first | omega | (simp; done) | (simp; omega))).trans (by go_cell : _ = false)
  have t8_0_1 := (hb.cell (p := ⟨W.heap.size, 1, none⟩) (by first | omega | (simp; done) | (simp; omega))).trans (by go_cell : _ = some (.int .i64 0))
  have z8_0_1 := (hb.frozen (p := ⟨W.heap.size, 1, none⟩) (by first | omega | (simp; done) | (simp; omega))).trans (by go_cell : _ = false)
  have t8_0_2 := (hb.cell (p := ⟨W.heap.size, 2, none⟩) (by first | omega | (simp; done) | (simp; omega))).trans (by go_cell : _ = some (.int .i64 0))
  have z8_0_2 := (hb.frozen (p := ⟨W.heap.size, 2, none⟩) (by first | omega | (simp; done) | (simp; omega))).trans (by go_cell : _ = false)
  have t8_0_3 := (hb.cell (p := ⟨W.heap.size, 3, none⟩) (by first | omega | (simp; done) | (simp; omega))).trans (by go_cell : _ = some (.int .i64 0))
  have z8_0_3 := (hb.frozen (p := ⟨W.heap.size, 3, none⟩) (by first | omega | (simp; done) | (simp; omega))).trans (by go_cell : _ = false)
  have l8_0 : W.heap.size < w8.heap.size := by have hs := hb.size; (try simp at hs); omega
  clear hb hHeld
  obtain rfl : e = .returned (.agg #[.int .i64 p1, .int .i64 q1]) := he
  refine hK.out _ _ (G0.out _ HD8) (fun hHeld => ?_)
  clear hK K
  try simp only [act_all]
  refine wpAnyH_ready (rs := [9]) (by kernel_rfl) (by simp) ?_
  refine AllReadyH.cons (o := _) rfl (fun K hK => ?_) AllReadyH.nil
  go_simp
  refine ((rCommon_any c d u v _).mono (fun e w' h => (by obtain ⟨h1, h2⟩ := h; exact ⟨by rw [HM2.out] at h1; exact h1, h2⟩ : (e = retS ⟨p2, q2⟩ ∧ Below _ _ w')))).mono ?_
  rintro e w9 ⟨he, hb⟩
  have HD9 : Below W.heap.size W w9 := Below.trans HD8 (hb.mono HD8.size)
  have hz9 := HD9.size
  have DA9 := HB0.out.trans (HD9.mono (show w.heap.size ≤ W.heap.size by omega))
  have t9_0_0 := (hb.cell (p := ⟨W.heap.size, 0, none⟩) (by first | omega | (simp; done) | (simp; omega))).trans (by go_cell : _ = some (.int .i64 0))
  have z9_0_0 := (hb.frozen (p := ⟨W.heap.size, 0, none⟩) (by first | omega | (simp; done) | (simp; omega))).trans (by go_cell : _ = false)
  have t9_0_1 := (hb.cell (p := ⟨W.heap.size, 1, none⟩) (by first | omega | (simp; done) | (simp; omega))).trans (by go_cell : _ = some (.int .i64 0))
  have z9_0_1 := (hb.frozen (p := ⟨W.heap.size, 1, none⟩) (by first | omega | (simp; done) | (simp; omega))).trans (by go_cell : _ = false)
  have t9_0_2 := (hb.cell (p := ⟨W.heap.size, 2, none⟩) (by first | omega | (simp; done) | (simp; omega))).trans (by go_cell : _ = some (.int .i64 0))
  have z9_0_2 := (hb.frozen (p := ⟨W.heap.size, 2, none⟩) (by first | omega | (simp; done) | (simp; omega))).trans (by go_cell : _ = false)
  have t9_0_3 := (hb.cell (p := ⟨W.heap.size, 3, none⟩) (by first | omega | (simp; done) | (simp; omega))).trans (by go_cell : _ = some (.int .i64 0))
  have z9_0_3 := (hb.frozen (p := ⟨W.heap.size, 3, none⟩) (by first | omega | (simp; done) | (simp; omega))).trans (by go_cell : _ = false)
  have l9_0 : W.heap.size < w9.heap.size := by have hs := hb.size; (try simp at hs); omega
  clear hb hHeld
  obtain rfl : e = .returned (.agg #[.int .i64 p2, .int .i64 q2]) := he
  refine hK.out _ _ (G0.out _ HD9) (fun hHeld => ?_)
  clear hK K
  try simp only [act_all]
  refine wpAnyH_take (i := 10) (oi := _) (v := ?_) rfl (by kernel_rfl) (by kernel_rfl) (by kernel_rfl) (fun _ _ _ h => h) (Or.inl ⟨by rfl, ?_⟩) (by assumption) ?_
  rotate_left
  · intro w hSw; obtain ⟨_, _, _, _, _, _, _, _⟩ := hSw; go_simp; (try with_reducible rfl)
  try change wpAnyH _ _ _ _ _ _ _ (Act.put _ (some 27) _) _
  try simp only [act_all]
  refine wpAnyH_ready (rs := [12]) (by kernel_rfl) (by simp) ?_
  refine AllReadyH.cons (o := _) rfl (fun K hK => ?_) AllReadyH.nil
  obtain ⟨_, _, _, _, _, _, _, _⟩ := G0.out _ HD9
  obtain ⟨_, _, _, _, _, _, _, _⟩ := G1.out _ HD9
  have nb11 : w.heap.size < w9.heap.size := by omega
  have nx11 : ¬ W.heap.size = w.heap.size := by omega
  have nb15 : w.heap.size + 1 < w9.heap.size := by omega
  have nx15 : ¬ W.heap.size = w.heap.size + 1 := by omega
  have nb19 : w.heap.size + 1 + 1 < w9.heap.size := by omega
  have nx19 : ¬ W.heap.size = w.heap.size + 1 + 1 := by omega
  go_simp
  refine hK.out _ _ (by refine ⟨?_, ?_, ?_, ?_, ?_, ?_, ?_, ?_⟩ <;> go_cell) (fun hHeld => ?_)
  clear hK K
  try simp only [act_all]
  refine wpAnyH_done (by kernel_rfl) ?_ _
  go_wp2_with fail
  refine (rValidRect_any p1 q1 p2 q2 _).mono ?_
  rw [HB3.out]
  rintro e wz ⟨rfl, hb⟩
  have DAZ := HB0.out
  have DZ : Below w.heap.size w wz := Below.trans (by go_grown) (hb.mono (by have := HD9.size; have := HB0.out.size; simp; omega))
  have sz1 : w.heap.size + 1 + 1 < wz.heap.size := by have hs := hb.size; (try simp at hs); omega
  have sz2 : W.heap.size < wz.heap.size := by have hs := hb.size; (try simp at hs); omega
  obtain ⟨k1, k2⟩ := bcl hb
  have rz0 := (k1 (w.heap.size + 1 + 1) 0 (by first | omega | (simp; done) | (simp; omega))).trans (by go_cell : _ = some (.int .i64 0))
  have fz0 := (k2 (w.heap.size + 1 + 1) 0 (by first | omega | (simp; done) | (simp; omega))).trans (by go_cell : _ = false)
  have cz0 := (k1 (W.heap.size) 0 (by first | omega | (simp; done) | (simp; omega))).trans (by go_cell : _ = some (.int .i64 p1))
  have rz1 := (k1 (w.heap.size + 1 + 1) 1 (by first | omega | (simp; done) | (simp; omega))).trans (by go_cell : _ = some (.int .i64 0))
  have fz1 := (k2 (w.heap.size + 1 + 1) 1 (by first | omega | (simp; done) | (simp; omega))).trans (by go_cell : _ = false)
  have cz1 := (k1 (W.heap.size) 1 (by first | omega | (simp; done) | (simp; omega))).trans (by go_cell : _ = some (.int .i64 q1))
  have rz2 := (k1 (w.heap.size + 1 + 1) 2 (by first | omega | (simp; done) | (simp; omega))).trans (by go_cell : _ = some (.int .i64 0))
  have fz2 := (k2 (w.heap.size + 1 + 1) 2 (by first | omega | (simp; done) | (simp; omega))).trans (by go_cell : _ = false)
  have cz2 := (k1 (W.heap.size) 2 (by first | omega | (simp; done) | (simp; omega))).trans (by go_cell : _ = some (.int .i64 p2))
  have rz3 := (k1 (w.heap.size + 1 + 1) 3 (by first | omega | (simp; done) | (simp; omega))).trans (by go_cell : _ = some (.int .i64 0))
  have fz3 := (k2 (w.heap.size + 1 + 1) 3 (by first | omega | (simp; done) | (simp; omega))).trans (by go_cell : _ = false)
  have cz3 := (k1 (W.heap.size) 3 (by first | omega | (simp; done) | (simp; omega))).trans (by go_cell : _ = some (.int .i64 q2))
  clear hb k1 k2
  cases b3 with
  | false =>
    have hq := HSP.out
    rw [HN.out, if_pos (show (true && true) = true from rfl), if_neg (by decide)] at hq
    (try simp only [R0, S0] at hq)
    simp only [Prod.mk.injEq, Rc.mk.injEq, Sp.mk.injEq] at hq
    obtain ⟨⟨⟨rfl, rfl⟩, rfl, rfl⟩, rfl, rfl⟩ := hq
    clear HSP HN
    go_wp2_with fail
    refine bodyPost_ret (v := .tuple #[.agg #[.int .i64 0, .int .i64 0, .int .i64 0, .int .i64 0], .bool false, .int .i64 0]) (by simp [results, Try.results25, go_sem, *]) rfl ⟨rfl, by go_grown⟩
  | true =>
    have hq := HSP.out
    rw [HN.out, if_pos (show (true && true) = true from rfl), if_pos rfl] at hq
    (try simp only [R0, S0] at hq)
    simp only [Prod.mk.injEq, Rc.mk.injEq, Sp.mk.injEq] at hq
    obtain ⟨⟨⟨rfl, rfl⟩, rfl, rfl⟩, rfl, rfl⟩ := hq
    clear HSP HN
    go_wp2_with fail
    refine bodyPost_ret (v := .tuple #[.agg #[.int .i64 p1, .int .i64 q1, .int .i64 p2, .int .i64 q2], .bool true, .int .i64 0]) (by simp [results, Try.results25, go_sem, *]) rfl ⟨rfl, by go_grown⟩
end Go.Proofs.Ytilclpldfoifkaa
