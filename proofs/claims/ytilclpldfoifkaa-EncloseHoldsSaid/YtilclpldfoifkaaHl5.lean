import Derived.Test.YtilclpldfoifkaaHw5
import Derived.Test.YtilclpldfoifkaaAw5
import Derived.Deep.DeepCutAuto
import Derived.Deep.CutBlock
namespace Go.Proofs.Ytilclpldfoifkaa
open Go.RowKit Encl
set_option maxRecDepth 100000 in
set_option maxHeartbeats 16000000 in
theorem EncloseHolds_any (a b c d s t k0 k1 k2 k3 : Int) (w : World) (hk0 : 0 ≤ k0 ∧ k0 ≤ 65535) (hk1 : 0 ≤ k1 ∧ k1 ≤ 65535) (hk2 : 0 ≤ k2 ∧ k2 ≤ 65535) (hk3 : 0 ≤ k3 ∧ k3 ≤ 65535) :
    Calls Try.prog 12 #[.agg #[.int .i64 a, .int .i64 b, .int .i64 c, .int .i64 d], .agg #[.int .i64 s, .int .i64 t], .agg #[.int .u16 k0, .int .u16 k1, .int .u16 k2, .int .u16 k3]] w fun e w' => e = .returned (.bool true) ∧ Below w.heap.size w w' := by
  obtain ⟨p1, p2, p3, p4, hp⟩ : ∃ p1 p2 p3 p4 : Int, ∀ w1 : World, Calls Try.prog 46 #[.agg #[.int .i64 a, .int .i64 b, .int .i64 c, .int .i64 d], .agg #[.int .u16 k0, .int .u16 k1, .int .u16 k2, .int .u16 k3]] w1 fun e w' => e = .returned (.agg #[.int .i64 p1, .int .i64 p2, .int .i64 p3, .int .i64 p4]) ∧ Below w1.heap.size w1 w' := ⟨_, _, _, _, fun w1 => widerL_any a b c d k0 k1 k2 k3 w1 hk0 hk1 hk2 hk3⟩
  obtain ⟨r1, r2, r3, r4, hq⟩ : ∃ p1 p2 p3 p4 : Int, ∀ w1 : World, Calls Try.prog 46 #[.agg #[.int .i64 s, .int .i64 t, .int .i64 0, .int .i64 0], .agg #[.int .u16 k0, .int .u16 k1, .int .u16 0, .int .u16 0]] w1 fun e w' => e = .returned (.agg #[.int .i64 p1, .int .i64 p2, .int .i64 p3, .int .i64 p4]) ∧ Below w1.heap.size w1 w' := ⟨_, _, _, _, fun w1 => widerL_any s t 0 0 k0 k1 0 0 w1 hk0 hk1 (by omega) (by omega)⟩
  have KX := Lib.hid hp
  have KR := Lib.hid hq
  have hfl : ∀ w : World, (Instr.field 25 (.agg #[.int .i64 r1, .int .i64 r2, .int .i64 r3, .int .i64 r4]) 0).run Try.prog w = .ok (.agg #[.int .i64 r1, .int .i64 r2]) w := fun _ => rfl
  clear hp hq hk0 hk1 hk2 hk3
  obtain ⟨ib1, hb1⟩ : ∃ x, (insideS ⟨⟨a, b⟩, ⟨c, d⟩⟩ ⟨⟨p1, p2⟩, ⟨p3, p4⟩⟩).1 = x := ⟨_, rfl⟩
  obtain ⟨ib2, hb2⟩ : ∃ x, (insideS ⟨⟨s, t⟩, ⟨0, 0⟩⟩ ⟨⟨r1, r2⟩, ⟨0, 0⟩⟩).1 = x := ⟨_, rfl⟩
  have HB1 := Lib.hid hb1
  have HB2 := Lib.hid hb2
  clear hb1 hb2
  go_enter Try.func12, Try.ntmps12
  go_wp2_with fail
  refine (KX.out _).mono ?_
  rintro e w1 ⟨rfl, hb⟩
  have D1 : Below w.heap.size w w1 := Below.trans (by go_grown) (hb.mono (by first | omega | (simp; done) | (simp; omega)))
  have s1 : w.heap.size + 1 + 1 < w1.heap.size := by have hs := hb.size; (try simp at hs); omega
  obtain ⟨k1', k2'⟩ := bcl hb
  have x0_ := (k1' (w.heap.size) 0 (by first | omega | (simp; done) | (simp; omega))).trans (by go_cell : _ = some (.int .i64 a))
  have x1_ := (k1' (w.heap.size) 1 (by first | omega | (simp; done) | (simp; omega))).trans (by go_cell : _ = some (.int .i64 b))
  have x2_ := (k1' (w.heap.size) 2 (by first | omega | (simp; done) | (simp; omega))).trans (by go_cell : _ = some (.int .i64 c))
  have x3_ := (k1' (w.heap.size) 3 (by first | omega | (simp; done) | (simp; omega))).trans (by go_cell : _ = some (.int .i64 d))
  have s0_ := (k1' (w.heap.size + 1) 0 (by first | omega | (simp; done) | (simp; omega))).trans (by go_cell : _ = some (.int .i64 s))
  have s1_ := (k1' (w.heap.size + 1) 1 (by first | omega | (simp; done) | (simp; omega))).trans (by go_cell : _ = some (.int .i64 t))
  have u0_ := (k1' (w.heap.size + 1 + 1) 0 (by first | omega | (simp; done) | (simp; omega))).trans (by go_cell : _ = some (.int .u16 k0))
  have u1_ := (k1' (w.heap.size + 1 + 1) 1 (by first | omega | (simp; done) | (simp; omega))).trans (by go_cell : _ = some (.int .u16 k1))
  have u2_ := (k1' (w.heap.size + 1 + 1) 2 (by first | omega | (simp; done) | (simp; omega))).trans (by go_cell : _ = some (.int .u16 k2))
  have u3_ := (k1' (w.heap.size + 1 + 1) 3 (by first | omega | (simp; done) | (simp; omega))).trans (by go_cell : _ = some (.int .u16 k3))
  clear hb k1' k2'
  go_upto_region 2 with fail
  have b1 : Below w1.heap.size w1 (w1.alloc (Obj.cells #[.int .i64 p1, .int .i64 p2, .int .i64 p3, .int .i64 p4] 25)) := bal (Below.refl _ _) _
  have hb0 : Below w.heap.size w (w1.alloc (Obj.cells #[.int .i64 p1, .int .i64 p2, .int .i64 p3, .int .i64 p4] 25)) := D1.trans (b1.mono D1.size)
  have cx0 := (b1.cell (p := ⟨w.heap.size, 0, none⟩) (by simp only; omega)).trans x0_
  have cx1 := (b1.cell (p := ⟨w.heap.size, 1, none⟩) (by simp only; omega)).trans x1_
  have cx2 := (b1.cell (p := ⟨w.heap.size, 2, none⟩) (by simp only; omega)).trans x2_
  have cx3 := (b1.cell (p := ⟨w.heap.size, 3, none⟩) (by simp only; omega)).trans x3_
  have cs0 := (b1.cell (p := ⟨w.heap.size + 1, 0, none⟩) (by simp only; omega)).trans s0_
  have cs1 := (b1.cell (p := ⟨w.heap.size + 1, 1, none⟩) (by simp only; omega)).trans s1_
  have cu0 := (b1.cell (p := ⟨w.heap.size + 1 + 1, 0, none⟩) (by simp only; omega)).trans u0_
  have cu1 := (b1.cell (p := ⟨w.heap.size + 1 + 1, 1, none⟩) (by simp only; omega)).trans u1_
  have cu2 := (b1.cell (p := ⟨w.heap.size + 1 + 1, 2, none⟩) (by simp only; omega)).trans u2_
  have cu3 := (b1.cell (p := ⟨w.heap.size + 1 + 1, 3, none⟩) (by simp only; omega)).trans u3_
  have cp0 : (w1.alloc (Obj.cells #[.int .i64 p1, .int .i64 p2, .int .i64 p3, .int .i64 p4] 25)).cell? ⟨w1.heap.size, 0, none⟩ = some (.int .i64 p1) := by go_cell
  have cp1 : (w1.alloc (Obj.cells #[.int .i64 p1, .int .i64 p2, .int .i64 p3, .int .i64 p4] 25)).cell? ⟨w1.heap.size, 1, none⟩ = some (.int .i64 p2) := by go_cell
  have cp2 : (w1.alloc (Obj.cells #[.int .i64 p1, .int .i64 p2, .int .i64 p3, .int .i64 p4] 25)).cell? ⟨w1.heap.size, 2, none⟩ = some (.int .i64 p3) := by go_cell
  have cp3 : (w1.alloc (Obj.cells #[.int .i64 p1, .int .i64 p2, .int .i64 p3, .int .i64 p4] 25)).cell? ⟨w1.heap.size, 3, none⟩ = some (.int .i64 p4) := by go_cell
  have hsz : w1.heap.size < (w1.alloc (Obj.cells #[.int .i64 p1, .int .i64 p2, .int .i64 p3, .int .i64 p4] 25)).heap.size := by simp
  clear b1 D1 x0_ x1_ x2_ x3_ s0_ s1_ u0_ u1_ u2_ u3_
  generalize (w1.alloc (Obj.cells #[.int .i64 p1, .int .i64 p2, .int .i64 p3, .int .i64 p4] 25)) = W at *
  generalize w1.heap.size = PB at *
  have HB0 := Lib.hid hb0
  have HD : Below W.heap.size W W := Below.refl _ _
  have G0 : Hid (∀ w', Below W.heap.size W w' → w'.cell? ⟨w.heap.size, 0, none⟩ = some (.int .i64 a) ∧ w'.cell? ⟨w.heap.size, 1, none⟩ = some (.int .i64 b) ∧ w'.cell? ⟨w.heap.size, 2, none⟩ = some (.int .i64 c) ∧ w'.cell? ⟨w.heap.size, 3, none⟩ = some (.int .i64 d) ∧ w'.cell? ⟨w.heap.size + 1, 0, none⟩ = some (.int .i64 s) ∧ w'.cell? ⟨w.heap.size + 1, 1, none⟩ = some (.int .i64 t) ∧ w'.cell? ⟨w.heap.size + 1 + 1, 0, none⟩ = some (.int .u16 k0) ∧ w'.cell? ⟨w.heap.size + 1 + 1, 1, none⟩ = some (.int .u16 k1) ∧ w'.cell? ⟨w.heap.size + 1 + 1, 2, none⟩ = some (.int .u16 k2) ∧ w'.cell? ⟨w.heap.size + 1 + 1, 3, none⟩ = some (.int .u16 k3) ∧ w'.cell? ⟨PB, 0, none⟩ = some (.int .i64 p1) ∧ w'.cell? ⟨PB, 1, none⟩ = some (.int .i64 p2) ∧ w'.cell? ⟨PB, 2, none⟩ = some (.int .i64 p3) ∧ w'.cell? ⟨PB, 3, none⟩ = some (.int .i64 p4)) := Lib.hid (fun w' hb => ⟨(hb.cell (p := ⟨w.heap.size, 0, none⟩) (by simp only; omega)).trans cx0, (hb.cell (p := ⟨w.heap.size, 1, none⟩) (by simp only; omega)).trans cx1, (hb.cell (p := ⟨w.heap.size, 2, none⟩) (by simp only; omega)).trans cx2, (hb.cell (p := ⟨w.heap.size, 3, none⟩) (by simp only; omega)).trans cx3, (hb.cell (p := ⟨w.heap.size + 1, 0, none⟩) (by simp only; omega)).trans cs0, (hb.cell (p := ⟨w.heap.size + 1, 1, none⟩) (by simp only; omega)).trans cs1, (hb.cell (p := ⟨w.heap.size + 1 + 1, 0, none⟩) (by simp only; omega)).trans cu0, (hb.cell (p := ⟨w.heap.size + 1 + 1, 1, none⟩) (by simp only; omega)).trans cu1, (hb.cell (p := ⟨w.heap.size + 1 + 1, 2, none⟩) (by simp only; omega)).trans cu2, (hb.cell (p := ⟨w.heap.size + 1 + 1, 3, none⟩) (by simp only; omega)).trans cu3, (hb.cell (p := ⟨PB, 0, none⟩) (by simp only; omega)).trans cp0, (hb.cell (p := ⟨PB, 1, none⟩) (by simp only; omega)).trans cp1, (hb.cell (p := ⟨PB, 2, none⟩) (by simp only; omega)).trans cp2, (hb.cell (p := ⟨PB, 3, none⟩) (by simp only; omega)).trans cp3⟩)
  clear hb0 cx0 cx1 cx2 cx3 cs0 cs1 cu0 cu1 cu2 cu3 cp0 cp1 cp2 cp3
  go_cut [8] (fun v8 wx => ∃ b8 : Nat, v8 = .pointer (some ⟨b8, 0, none⟩) ∧ W.heap.size ≤ b8 ∧ b8 < wx.heap.size ∧ wx.cell? ⟨b8, 0, none⟩ = some (.int .i64 r1) ∧ wx.cell? ⟨b8, 1, none⟩ = some (.int .i64 r2) ∧ Below W.heap.size W wx)
  case first =>
    have HD1 : Below W.heap.size W W.drew := HD.drew
    refine wp_region_held_drew (S := fun w' => w'.cell? ⟨w.heap.size, 0, none⟩ = some (.int .i64 a) ∧ w'.cell? ⟨w.heap.size, 1, none⟩ = some (.int .i64 b) ∧ w'.cell? ⟨w.heap.size, 2, none⟩ = some (.int .i64 c) ∧ w'.cell? ⟨w.heap.size, 3, none⟩ = some (.int .i64 d) ∧ w'.cell? ⟨w.heap.size + 1, 0, none⟩ = some (.int .i64 s) ∧ w'.cell? ⟨w.heap.size + 1, 1, none⟩ = some (.int .i64 t) ∧ w'.cell? ⟨w.heap.size + 1 + 1, 0, none⟩ = some (.int .u16 k0) ∧ w'.cell? ⟨w.heap.size + 1 + 1, 1, none⟩ = some (.int .u16 k1) ∧ w'.cell? ⟨w.heap.size + 1 + 1, 2, none⟩ = some (.int .u16 k2) ∧ w'.cell? ⟨w.heap.size + 1 + 1, 3, none⟩ = some (.int .u16 k3) ∧ w'.cell? ⟨PB, 0, none⟩ = some (.int .i64 p1) ∧ w'.cell? ⟨PB, 1, none⟩ = some (.int .i64 p2) ∧ w'.cell? ⟨PB, 2, none⟩ = some (.int .i64 p3) ∧ w'.cell? ⟨PB, 3, none⟩ = some (.int .i64 p4)) (by kernel_rfl) (G0.out _ HD1) (fun hHeld => ?_)
    refine wpAnyH_take (i := 0) (oi := _) (v := ?_) rfl (by kernel_rfl) (by kernel_rfl) (by kernel_rfl) (fun _ _ _ h => h) (Or.inl ⟨by rfl, ?_⟩) (by assumption) ?_
    rotate_left
    · intro w hSw; obtain ⟨_, _, _, _, _, _, _, _, _, _, _, _, _, _⟩ := hSw; go_simp; (try with_reducible rfl)
    try change wpAnyH _ _ _ _ _ _ _ (Act.put _ (some 16) _) _
    try simp only [act_all]
    refine wpAnyH_take (i := 2) (oi := _) (v := ?_) rfl (by kernel_rfl) (by kernel_rfl) (by kernel_rfl) (fun _ _ _ h => h) (Or.inl ⟨by rfl, ?_⟩) (by assumption) ?_
    rotate_left
    · intro w hSw; obtain ⟨_, _, _, _, _, _, _, _, _, _, _, _, _, _⟩ := hSw; go_simp; (try with_reducible rfl)
    try change wpAnyH _ _ _ _ _ _ _ (Act.put _ (some 18) _) _
    try simp only [act_all]
    refine wpAnyH_take (i := 3) (oi := _) (v := ?_) rfl (by kernel_rfl) (by kernel_rfl) (by kernel_rfl) (fun _ _ _ h => h) (Or.inl ⟨by rfl, ?_⟩) (by assumption) ?_
    rotate_left
    · intro w hSw; obtain ⟨_, _, _, _, _, _, _, _, _, _, _, _, _, _⟩ := hSw; go_simp; (try with_reducible rfl)
    try change wpAnyH _ _ _ _ _ _ _ (Act.put _ (some 19) _) _
    try simp only [act_all]
    refine wpAnyH_take (i := 4) (oi := _) (v := ?_) rfl (by kernel_rfl) (by kernel_rfl) (by kernel_rfl) (fun _ _ _ h => h) (Or.inl ⟨by rfl, ?_⟩) (by assumption) ?_
    rotate_left
    · intro w hSw; obtain ⟨_, _, _, _, _, _, _, _, _, _, _, _, _, _⟩ := hSw; go_simp; (try with_reducible rfl)
    try change wpAnyH _ _ _ _ _ _ _ (Act.put _ (some 20) _) _
    try simp only [act_all]
    refine wpAnyH_take (i := 5) (oi := _) (v := ?_) rfl (by kernel_rfl) (by kernel_rfl) (by kernel_rfl) (fun _ _ _ h => h) (Or.inl ⟨by rfl, ?_⟩) (by assumption) ?_
    rotate_left
    · intro w hSw; obtain ⟨_, _, _, _, _, _, _, _, _, _, _, _, _, _⟩ := hSw; go_simp; (try with_reducible rfl)
    try change wpAnyH _ _ _ _ _ _ _ (Act.put _ (some 21) _) _
    try simp only [act_all]
    refine wpAnyH_take (i := 6) (oi := _) (v := ?_) rfl (by kernel_rfl) (by kernel_rfl) (by kernel_rfl) (fun _ _ _ h => h) (Or.inl ⟨by rfl, ?_⟩) (by assumption) ?_
    rotate_left
    · intro w hSw; obtain ⟨_, _, _, _, _, _, _, _, _, _, _, _, _, _⟩ := hSw; go_simp; (try with_reducible rfl)
    try change wpAnyH _ _ _ _ _ _ _ (Act.put _ (some 22) _) _
    try simp only [act_all]
    refine wpAnyH_ready (rs := [1, 9]) (by kernel_rfl) (by simp) ?_
    refine AllReadyH.cons (o := _) rfl (fun K hK => ?_) ?_
    · go_simp
      refine (wideL2_any s t _).mono ?_
      rintro e w2 ⟨he, hb⟩
      have HD2 : Below W.heap.size W w2 := Below.trans HD1 (hb.mono HD1.size)
      have hz2 := HD2.size
      have DA2 := HB0.out.trans (HD2.mono (show w.heap.size ≤ W.heap.size by omega))
      clear hb hHeld
      obtain rfl : e = .returned (.agg #[.int .i64 s, .int .i64 t, .int .i64 0, .int .i64 0]) := he
      refine hK.out _ _ (G0.out _ HD2) (fun hHeld => ?_)
      clear hK K
      try simp only [act_all]
      refine wpAnyH_ready (rs := [7, 9]) (by kernel_rfl) (by simp) ?_
      refine AllReadyH.cons (o := _) rfl (fun K hK => ?_) ?_
      · go_simp
        refine (KR.out _).mono ?_
        rintro e w3 ⟨he, hb⟩
        have HD3 : Below W.heap.size W w3 := Below.trans HD2 (hb.mono HD2.size)
        have hz3 := HD3.size
        have DA3 := HB0.out.trans (HD3.mono (show w.heap.size ≤ W.heap.size by omega))
        clear hb hHeld
        obtain rfl : e = .returned (.agg #[.int .i64 r1, .int .i64 r2, .int .i64 r3, .int .i64 r4]) := he
        refine hK.out _ _ (G0.out _ HD3) (fun hHeld => ?_)
        clear hK K
        try simp only [act_all]
        refine wpAnyH_take (i := 8) (oi := _) (v := ?_) rfl (by kernel_rfl) (by kernel_rfl) (by kernel_rfl) (fun _ _ _ h => h) (Or.inl ⟨by rfl, ?_⟩) (by assumption) ?_
        rotate_left
        · intro w hSw; obtain ⟨_, _, _, _, _, _, _, _, _, _, _, _, _, _⟩ := hSw; go_simp; (try with_reducible rfl)
        try change wpAnyH _ _ _ _ _ _ _ (Act.put _ (some 24) _) _
        try simp only [act_all]
        refine wpAnyH_ready (rs := [9]) (by kernel_rfl) (by simp) ?_
        refine AllReadyH.cons (o := _) rfl (fun K hK => ?_) AllReadyH.nil
        have HD4 : Below W.heap.size W (w3.alloc (Obj.cells #[.int .i64 0, .int .i64 0] 23)) := bal HD3 _
        go_simp
        refine hK.out _ _ (G0.out _ HD4) (fun hHeld => ?_)
        clear hK K
        try simp only [act_all]
        refine wpAnyH_ready (rs := [10]) (by kernel_rfl) (by simp) ?_
        refine AllReadyH.cons (o := _) rfl (fun K hK => ?_) AllReadyH.nil
        obtain ⟨_, _, _, _, _, _, _, _, _, _, _, _, _, _⟩ := G0.out _ HD3
        have nb0 : w.heap.size < w3.heap.size := by omega
        have nx00 : ¬ w3.heap.size = w.heap.size := by omega
        have nb1 : w.heap.size + 1 < w3.heap.size := by omega
        have nx10 : ¬ w3.heap.size = w.heap.size + 1 := by omega
        have nb2 : w.heap.size + 1 + 1 < w3.heap.size := by omega
        have nx20 : ¬ w3.heap.size = w.heap.size + 1 + 1 := by omega
        have nb3 : PB < w3.heap.size := by omega
        have nx30 : ¬ w3.heap.size = PB := by omega
        go_simp
        refine hK.out _ _ (by refine ⟨?_, ?_, ?_, ?_, ?_, ?_, ?_, ?_, ?_, ?_, ?_, ?_, ?_, ?_⟩ <;> go_cell) (fun hHeld => ?_)
        clear hK K
        try simp only [act_all]
        refine wpAnyH_done (by kernel_rfl) ?_ _
        have DLL := HD3
        go_wp2_with fail
        go_meet
        refine ⟨w3.heap.size, rfl, ?_, ?_, ?_, ?_, ?_⟩
        all_goals first | (go_cell; done) | omega | (simp; done) | (simp; omega) | go_grown
      refine AllReadyH.cons (o := _) rfl (fun K hK => ?_) AllReadyH.nil
      have HD5 : Below W.heap.size W (w2.alloc (Obj.cells #[.int .i64 0, .int .i64 0] 23)) := bal HD2 _
      go_simp
      refine hK.out _ _ (G0.out _ HD5) (fun hHeld => ?_)
      clear hK K
      try simp only [act_all]
      refine wpAnyH_ready (rs := [7]) (by kernel_rfl) (by simp) ?_
      refine AllReadyH.cons (o := _) rfl (fun K hK => ?_) AllReadyH.nil
      go_simp
      refine (KR.out _).mono ?_
      rintro e w6 ⟨he, hb⟩
      have HD6 : Below W.heap.size W w6 := Below.trans HD5 (hb.mono HD5.size)
      have hz6 := HD6.size
      have DA6 := HB0.out.trans (HD6.mono (show w.heap.size ≤ W.heap.size by omega))
      have t6_0_0 := (hb.cell (p := ⟨w2.heap.size, 0, none⟩) (by first | omega | (simp; done) | (simp; omega))).trans (by go_cell : _ = some (.int .i64 0))
      have z6_0_0 := (hb.frozen (p := ⟨w2.heap.size, 0, none⟩) (by first | omega | (simp; done) | (simp; omega))).trans (by go_cell : _ = false)
      have t6_0_1 := (hb.cell (p := ⟨w2.heap.size, 1, none⟩) (by first | omega | (simp; done) | (simp; omega))).trans (by go_cell : _ = some (.int .i64 0))
      have z6_0_1 := (hb.frozen (p := ⟨w2.heap.size, 1, none⟩) (by first | omega | (simp; done) | (simp; omega))).trans (by go_cell : _ = false)
      have l6_0 : w2.heap.size < w6.heap.size := by have hs := hb.size; (try simp at hs); omega
      clear hb hHeld
      obtain rfl : e = .returned (.agg #[.int .i64 r1, .int .i64 r2, .int .i64 r3, .int .i64 r4]) := he
      refine hK.out _ _ (G0.out _ HD6) (fun hHeld => ?_)
      clear hK K
      try simp only [act_all]
      refine wpAnyH_take (i := 8) (oi := _) (v := ?_) rfl (by kernel_rfl) (by kernel_rfl) (by kernel_rfl) (fun _ _ _ h => h) (Or.inl ⟨by rfl, ?_⟩) (by assumption) ?_
      rotate_left
      · intro w hSw; obtain ⟨_, _, _, _, _, _, _, _, _, _, _, _, _, _⟩ := hSw; go_simp; (try with_reducible rfl)
      try change wpAnyH _ _ _ _ _ _ _ (Act.put _ (some 24) _) _
      try simp only [act_all]
      refine wpAnyH_ready (rs := [10]) (by kernel_rfl) (by simp) ?_
      refine AllReadyH.cons (o := _) rfl (fun K hK => ?_) AllReadyH.nil
      obtain ⟨_, _, _, _, _, _, _, _, _, _, _, _, _, _⟩ := G0.out _ HD6
      have nb0 : w.heap.size < w6.heap.size := by omega
      have nx00 : ¬ w2.heap.size = w.heap.size := by omega
      have nb1 : w.heap.size + 1 < w6.heap.size := by omega
      have nx10 : ¬ w2.heap.size = w.heap.size + 1 := by omega
      have nb2 : w.heap.size + 1 + 1 < w6.heap.size := by omega
      have nx20 : ¬ w2.heap.size = w.heap.size + 1 + 1 := by omega
      have nb3 : PB < w6.heap.size := by omega
      have nx30 : ¬ w2.heap.size = PB := by omega
      go_simp
      refine hK.out _ _ (by refine ⟨?_, ?_, ?_, ?_, ?_, ?_, ?_, ?_, ?_, ?_, ?_, ?_, ?_, ?_⟩ <;> go_cell) (fun hHeld => ?_)
      clear hK K
      try simp only [act_all]
      refine wpAnyH_done (by kernel_rfl) ?_ _
      have DLL := HD6
      go_wp2_with fail
      go_meet
      refine ⟨w2.heap.size, rfl, ?_, ?_, ?_, ?_, ?_⟩
      all_goals first | (go_cell; done) | omega | (simp; done) | (simp; omega) | go_grown
    refine AllReadyH.cons (o := _) rfl (fun K hK => ?_) AllReadyH.nil
    have HD7 : Below W.heap.size W (W.drew.alloc (Obj.cells #[.int .i64 0, .int .i64 0] 23)) := bal HD1 _
    go_simp
    refine hK.out _ _ (G0.out _ HD7) (fun hHeld => ?_)
    clear hK K
    try simp only [act_all]
    refine wpAnyH_ready (rs := [1]) (by kernel_rfl) (by simp) ?_
    refine AllReadyH.cons (o := _) rfl (fun K hK => ?_) AllReadyH.nil
    go_simp
    refine (wideL2_any s t _).mono ?_
    rintro e w8 ⟨he, hb⟩
    have HD8 : Below W.heap.size W w8 := Below.trans HD7 (hb.mono HD7.size)
    have hz8 := HD8.size
    have DA8 := HB0.out.trans (HD8.mono (show w.heap.size ≤ W.heap.size by omega))
    have t8_0_0 := (hb.cell (p := ⟨W.heap.size, 0, none⟩) (by first | omega | (simp; done) | (simp; omega))).trans (by go_cell : _ = some (.int .i64 0))
    have z8_0_0 := (hb.frozen (p := ⟨W.heap.size, 0, none⟩) (by first | omega | (simp; done) | (simp; omega))).trans (by go_cell : _ = false)
    have t8_0_1 := (hb.cell (p := ⟨W.heap.size, 1, none⟩) (by first | omega | (simp; done) | (simp; omega))).trans (by go_cell : _ = some (.int .i64 0))
    have z8_0_1 := (hb.frozen (p := ⟨W.heap.size, 1, none⟩) (by first | omega | (simp; done) | (simp; omega))).trans (by go_cell : _ = false)
    have l8_0 : W.heap.size < w8.heap.size := by have hs := hb.size; (try simp at hs); omega
    clear hb hHeld
    obtain rfl : e = .returned (.agg #[.int .i64 s, .int .i64 t, .int .i64 0, .int .i64 0]) := he
    refine hK.out _ _ (G0.out _ HD8) (fun hHeld => ?_)
    clear hK K
    try simp only [act_all]
    refine wpAnyH_ready (rs := [7]) (by kernel_rfl) (by simp) ?_
    refine AllReadyH.cons (o := _) rfl (fun K hK => ?_) AllReadyH.nil
    go_simp
    refine (KR.out _).mono ?_
    rintro e w9 ⟨he, hb⟩
    have HD9 : Below W.heap.size W w9 := Below.trans HD8 (hb.mono HD8.size)
    have hz9 := HD9.size
    have DA9 := HB0.out.trans (HD9.mono (show w.heap.size ≤ W.heap.size by omega))
    have t9_0_0 := (hb.cell (p := ⟨W.heap.size, 0, none⟩) (by first | omega | (simp; done) | (simp; omega))).trans (by go_cell : _ = some (.int .i64 0))
    have z9_0_0 := (hb.frozen (p := ⟨W.heap.size, 0, none⟩) (by first | omega | (simp; done) | (simp; omega))).trans (by go_cell : _ = false)
    have t9_0_1 := (hb.cell (p := ⟨W.heap.size, 1, none⟩) (by first | omega | (simp; done) | (simp; omega))).trans (by go_cell : _ = some (.int .i64 0))
    have z9_0_1 := (hb.frozen (p := ⟨W.heap.size, 1, none⟩) (by first | omega | (simp; done) | (simp; omega))).trans (by go_cell : _ = false)
    have l9_0 : W.heap.size < w9.heap.size := by have hs := hb.size; (try simp at hs); omega
    clear hb hHeld
    obtain rfl : e = .returned (.agg #[.int .i64 r1, .int .i64 r2, .int .i64 r3, .int .i64 r4]) := he
    refine hK.out _ _ (G0.out _ HD9) (fun hHeld => ?_)
    clear hK K
    try simp only [act_all]
    refine wpAnyH_take (i := 8) (oi := _) (v := ?_) rfl (by kernel_rfl) (by kernel_rfl) (by kernel_rfl) (fun _ _ _ h => h) (Or.inl ⟨by rfl, ?_⟩) (by assumption) ?_
    rotate_left
    · intro w hSw; obtain ⟨_, _, _, _, _, _, _, _, _, _, _, _, _, _⟩ := hSw; go_simp; (try with_reducible rfl)
    try change wpAnyH _ _ _ _ _ _ _ (Act.put _ (some 24) _) _
    try simp only [act_all]
    refine wpAnyH_ready (rs := [10]) (by kernel_rfl) (by simp) ?_
    refine AllReadyH.cons (o := _) rfl (fun K hK => ?_) AllReadyH.nil
    obtain ⟨_, _, _, _, _, _, _, _, _, _, _, _, _, _⟩ := G0.out _ HD9
    have nb0 : w.heap.size < w9.heap.size := by omega
    have nx00 : ¬ W.heap.size = w.heap.size := by omega
    have nb1 : w.heap.size + 1 < w9.heap.size := by omega
    have nx10 : ¬ W.heap.size = w.heap.size + 1 := by omega
    have nb2 : w.heap.size + 1 + 1 < w9.heap.size := by omega
    have nx20 : ¬ W.heap.size = w.heap.size + 1 + 1 := by omega
    have nb3 : PB < w9.heap.size := by omega
    have nx30 : ¬ W.heap.size = PB := by omega
    go_simp
    refine hK.out _ _ (by refine ⟨?_, ?_, ?_, ?_, ?_, ?_, ?_, ?_, ?_, ?_, ?_, ?_, ?_, ?_⟩ <;> go_cell) (fun hHeld => ?_)
    clear hK K
    try simp only [act_all]
    refine wpAnyH_done (by kernel_rfl) ?_ _
    have DLL := HD9
    go_wp2_with fail
    go_meet
    refine ⟨W.heap.size, rfl, ?_, ?_, ?_, ?_, ?_⟩
    all_goals first | (go_cell; done) | omega | (simp; done) | (simp; omega) | go_grown
  case rest =>
    obtain ⟨b8, rfl, h8, l8, rc0, rc1, hD⟩ := hcut
    have DC : Below w.heap.size w wc := HB0.out.trans (hD.mono HB0.out.size)
    obtain ⟨x0, x1, x2, x3, y0, y1, _, _, _, _, p0, p1', p2', p3'⟩ := G0.out _ hD
    have l0 : w.heap.size < wc.heap.size := by have := hD.size; omega
    have l1 : w.heap.size + 1 < wc.heap.size := by have := hD.size; omega
    have l2 : PB < wc.heap.size := by have := hD.size; omega
    clear hD
    have G3 : Hid (∀ w', Below wc.heap.size wc w' → w'.cell? ⟨w.heap.size, 0, none⟩ = some (.int .i64 a) ∧ w'.cell? ⟨w.heap.size, 1, none⟩ = some (.int .i64 b) ∧ w'.cell? ⟨w.heap.size, 2, none⟩ = some (.int .i64 c) ∧ w'.cell? ⟨w.heap.size, 3, none⟩ = some (.int .i64 d) ∧ w'.cell? ⟨w.heap.size + 1, 0, none⟩ = some (.int .i64 s) ∧ w'.cell? ⟨w.heap.size + 1, 1, none⟩ = some (.int .i64 t) ∧ w'.cell? ⟨PB, 0, none⟩ = some (.int .i64 p1) ∧ w'.cell? ⟨PB, 1, none⟩ = some (.int .i64 p2) ∧ w'.cell? ⟨PB, 2, none⟩ = some (.int .i64 p3) ∧ w'.cell? ⟨PB, 3, none⟩ = some (.int .i64 p4) ∧ w'.cell? ⟨b8, 0, none⟩ = some (.int .i64 r1) ∧ w'.cell? ⟨b8, 1, none⟩ = some (.int .i64 r2)) := Lib.hid (fun w' hb => ⟨(hb.cell (p := ⟨w.heap.size, 0, none⟩) (by simp only; omega)).trans x0, (hb.cell (p := ⟨w.heap.size, 1, none⟩) (by simp only; omega)).trans x1, (hb.cell (p := ⟨w.heap.size, 2, none⟩) (by simp only; omega)).trans x2, (hb.cell (p := ⟨w.heap.size, 3, none⟩) (by simp only; omega)).trans x3, (hb.cell (p := ⟨w.heap.size + 1, 0, none⟩) (by simp only; omega)).trans y0, (hb.cell (p := ⟨w.heap.size + 1, 1, none⟩) (by simp only; omega)).trans y1, (hb.cell (p := ⟨PB, 0, none⟩) (by simp only; omega)).trans p0, (hb.cell (p := ⟨PB, 1, none⟩) (by simp only; omega)).trans p1', (hb.cell (p := ⟨PB, 2, none⟩) (by simp only; omega)).trans p2', (hb.cell (p := ⟨PB, 3, none⟩) (by simp only; omega)).trans p3', (hb.cell (p := ⟨b8, 0, none⟩) (by simp only; omega)).trans rc0, (hb.cell (p := ⟨b8, 1, none⟩) (by simp only; omega)).trans rc1⟩)
    have HDC := Lib.hid DC
    clear DC x0 x1 x2 x3 y0 y1 p0 p1' p2' p3' rc0 rc1
    go_wp2_with fail
    cases ib1 with
    | false =>
      have HDs : Below wc.heap.size wc wc := Below.refl _ _
      have HDd : Below wc.heap.size wc wc.drew := HDs.drew
      refine wp_region_held_drew (S := fun w' => w'.cell? ⟨w.heap.size, 0, none⟩ = some (.int .i64 a) ∧ w'.cell? ⟨w.heap.size, 1, none⟩ = some (.int .i64 b) ∧ w'.cell? ⟨w.heap.size, 2, none⟩ = some (.int .i64 c) ∧ w'.cell? ⟨w.heap.size, 3, none⟩ = some (.int .i64 d) ∧ w'.cell? ⟨w.heap.size + 1, 0, none⟩ = some (.int .i64 s) ∧ w'.cell? ⟨w.heap.size + 1, 1, none⟩ = some (.int .i64 t) ∧ w'.cell? ⟨PB, 0, none⟩ = some (.int .i64 p1) ∧ w'.cell? ⟨PB, 1, none⟩ = some (.int .i64 p2) ∧ w'.cell? ⟨PB, 2, none⟩ = some (.int .i64 p3) ∧ w'.cell? ⟨PB, 3, none⟩ = some (.int .i64 p4) ∧ w'.cell? ⟨b8, 0, none⟩ = some (.int .i64 r1) ∧ w'.cell? ⟨b8, 1, none⟩ = some (.int .i64 r2)) (by kernel_rfl) (G3.out _ HDd) (fun hHeld => ?_)
      refine wpAnyH_take (i := 0) (oi := _) (v := ?_) rfl (by kernel_rfl) (by kernel_rfl) (by kernel_rfl) (fun _ _ _ h => h) (Or.inl ⟨by rfl, ?_⟩) (by assumption) ?_
      rotate_left
      · intro w hSw; obtain ⟨_, _, _, _, _, _, _, _, _, _, _, _⟩ := hSw; go_simp; (try with_reducible rfl)
      try change wpAnyH _ _ _ _ _ _ _ (Act.put _ (some 25) _) _
      try simp only [act_all]
      refine wpAnyH_take (i := 1) (oi := _) (v := ?_) rfl (by kernel_rfl) (by kernel_rfl) (by kernel_rfl) (fun _ _ _ h => h) (Or.inl ⟨by rfl, ?_⟩) (by assumption) ?_
      rotate_left
      · intro w hSw; obtain ⟨_, _, _, _, _, _, _, _, _, _, _, _⟩ := hSw; go_simp; (try with_reducible rfl)
      try change wpAnyH _ _ _ _ _ _ _ (Act.put _ (some 26) _) _
      try simp only [act_all]
      refine wpAnyH_ready (rs := [2]) (by kernel_rfl) (by simp) ?_
      refine AllReadyH.cons (o := _) rfl (fun K hK => ?_) AllReadyH.nil
      go_simp
      refine (inL_any a b c d p1 p2 p3 p4 _).mono ?_
      rw [HB1.out]
      rintro e wr1 ⟨he, hb⟩
      obtain rfl : e = .returned (.bool false) := he
      have HR1 : Below wc.heap.size wc wr1 := HDd.trans (hb.mono HDd.size)
      clear hb hHeld
      refine hK.out _ _ (G3.out _ HR1) (fun hHeld => ?_)
      clear hK K
      try simp only [act_all]
      refine wpAnyH_take (i := 3) (oi := _) (v := ?_) rfl (by kernel_rfl) (by kernel_rfl) (by kernel_rfl) (fun _ _ _ h => h) (Or.inl ⟨by rfl, ?_⟩) (by assumption) ?_
      rotate_left
      · intro w hSw; obtain ⟨_, _, _, _, _, _, _, _, _, _, _, _⟩ := hSw; go_simp; (try with_reducible rfl)
      try change wpAnyH _ _ _ _ _ _ _ (Act.put _ (some 28) _) _
      try simp only [act_all]
      refine wpAnyH_take (i := 4) (oi := _) (v := ?_) rfl (by kernel_rfl) (by kernel_rfl) (by kernel_rfl) (fun _ _ _ h => h) (Or.inl ⟨by rfl, ?_⟩) (by assumption) ?_
      rotate_left
      · intro w hSw; obtain ⟨_, _, _, _, _, _, _, _, _, _, _, _⟩ := hSw; go_simp; (try with_reducible rfl)
      try change wpAnyH _ _ _ _ _ _ _ (Act.put _ (some 29) _) _
      try simp only [act_all]
      refine wpAnyH_ready (rs := [5, 7]) (by kernel_rfl) (by simp) ?_
      refine AllReadyH.cons (o := _) rfl (fun K hK => ?_) ?_
      · go_simp
        refine hK.out _ _ (G3.out _ HR1) (fun hHeld => ?_)
        clear hK K
        try simp only [act_all]
        refine wpAnyH_ready (rs := [6, 7]) (by kernel_rfl) (by simp) ?_
        refine AllReadyH.cons (o := _) rfl (fun K hK => ?_) ?_
        · go_simp
          refine hK.out _ _ (G3.out _ HR1) (fun hHeld => ?_)
          clear hK K
          try simp only [act_all]
          refine wpAnyH_ready (rs := [7]) (by kernel_rfl) (by simp) ?_
          refine AllReadyH.cons (o := _) rfl (fun K hK => ?_) AllReadyH.nil
          go_simp
          refine hK.out _ _ (G3.out _ HR1) (fun hHeld => ?_)
          clear hK K
          try simp only [act_all]
          refine wpAnyH_ready (rs := [8]) (by kernel_rfl) (by simp) ?_
          refine AllReadyH.cons (o := _) rfl (fun K hK => ?_) AllReadyH.nil
          go_simp
          refine hK.out _ _ (G3.out _ HR1) (fun hHeld => ?_)
          clear hK K
          try simp only [act_all]
          refine wpAnyH_ready (rs := [9]) (by kernel_rfl) (by simp) ?_
          refine AllReadyH.cons (o := _) rfl (fun K hK => ?_) AllReadyH.nil
          go_simp
          refine hK.out _ _ (G3.out _ HR1) (fun hHeld => ?_)
          clear hK K
          try simp only [act_all]
          refine wpAnyH_ready (rs := [10]) (by kernel_rfl) (by simp) ?_
          refine AllReadyH.cons (o := _) rfl (fun K hK => ?_) AllReadyH.nil
          go_simp
          refine hK.out _ _ (G3.out _ HR1) (fun hHeld => ?_)
          clear hK K
          try simp only [act_all]
          refine wpAnyH_take (i := 11) (oi := _) (v := ?_) rfl (by kernel_rfl) (by kernel_rfl) (by kernel_rfl) (fun _ _ _ h => h) (Or.inl ⟨by rfl, ?_⟩) (by assumption) ?_
          rotate_left
          · intro w hSw; obtain ⟨_, _, _, _, _, _, _, _, _, _, _, _⟩ := hSw; go_simp; (try with_reducible rfl)
          try change wpAnyH _ _ _ _ _ _ _ (Act.put _ (some 36) _) _
          try simp only [act_all]
          refine wpAnyH_done (by kernel_rfl) ?_ _
          have DA := HDC.out.trans (HR1.mono HDC.out.size)
          go_wp2_with fail
          refine (eawake_any _).mono ?_
          rintro e wz ⟨rfl, hb⟩
          have DZ : Below w.heap.size w wz := DA.trans (hb.mono DA.size)
          clear hb
          go_wp2_with fail
          go_returns
          exact ⟨rfl, DZ⟩
        refine AllReadyH.cons (o := _) rfl (fun K hK => ?_) AllReadyH.nil
        go_simp
        refine hK.out _ _ (G3.out _ HR1) (fun hHeld => ?_)
        clear hK K
        try simp only [act_all]
        refine wpAnyH_ready (rs := [6]) (by kernel_rfl) (by simp) ?_
        refine AllReadyH.cons (o := _) rfl (fun K hK => ?_) AllReadyH.nil
        go_simp
        refine hK.out _ _ (G3.out _ HR1) (fun hHeld => ?_)
        clear hK K
        try simp only [act_all]
        refine wpAnyH_ready (rs := [8]) (by kernel_rfl) (by simp) ?_
        refine AllReadyH.cons (o := _) rfl (fun K hK => ?_) AllReadyH.nil
        go_simp
        refine hK.out _ _ (G3.out _ HR1) (fun hHeld => ?_)
        clear hK K
        try simp only [act_all]
        refine wpAnyH_ready (rs := [9]) (by kernel_rfl) (by simp) ?_
        refine AllReadyH.cons (o := _) rfl (fun K hK => ?_) AllReadyH.nil
        go_simp
        refine hK.out _ _ (G3.out _ HR1) (fun hHeld => ?_)
        clear hK K
        try simp only [act_all]
        refine wpAnyH_ready (rs := [10]) (by kernel_rfl) (by simp) ?_
        refine AllReadyH.cons (o := _) rfl (fun K hK => ?_) AllReadyH.nil
        go_simp
        refine hK.out _ _ (G3.out _ HR1) (fun hHeld => ?_)
        clear hK K
        try simp only [act_all]
        refine wpAnyH_take (i := 11) (oi := _) (v := ?_) rfl (by kernel_rfl) (by kernel_rfl) (by kernel_rfl) (fun _ _ _ h => h) (Or.inl ⟨by rfl, ?_⟩) (by assumption) ?_
        rotate_left
        · intro w hSw; obtain ⟨_, _, _, _, _, _, _, _, _, _, _, _⟩ := hSw; go_simp; (try with_reducible rfl)
        try change wpAnyH _ _ _ _ _ _ _ (Act.put _ (some 36) _) _
        try simp only [act_all]
        refine wpAnyH_done (by kernel_rfl) ?_ _
        have DA := HDC.out.trans (HR1.mono HDC.out.size)
        go_wp2_with fail
        refine (eawake_any _).mono ?_
        rintro e wz ⟨rfl, hb⟩
        have DZ : Below w.heap.size w wz := DA.trans (hb.mono DA.size)
        clear hb
        go_wp2_with fail
        go_returns
        exact ⟨rfl, DZ⟩
      refine AllReadyH.cons (o := _) rfl (fun K hK => ?_) AllReadyH.nil
      go_simp
      refine hK.out _ _ (G3.out _ HR1) (fun hHeld => ?_)
      clear hK K
      try simp only [act_all]
      refine wpAnyH_ready (rs := [5]) (by kernel_rfl) (by simp) ?_
      refine AllReadyH.cons (o := _) rfl (fun K hK => ?_) AllReadyH.nil
      go_simp
      refine hK.out _ _ (G3.out _ HR1) (fun hHeld => ?_)
      clear hK K
      try simp only [act_all]
      refine wpAnyH_ready (rs := [6]) (by kernel_rfl) (by simp) ?_
      refine AllReadyH.cons (o := _) rfl (fun K hK => ?_) AllReadyH.nil
      go_simp
      refine hK.out _ _ (G3.out _ HR1) (fun hHeld => ?_)
      clear hK K
      try simp only [act_all]
      refine wpAnyH_ready (rs := [8]) (by kernel_rfl) (by simp) ?_
      refine AllReadyH.cons (o := _) rfl (fun K hK => ?_) AllReadyH.nil
      go_simp
      refine hK.out _ _ (G3.out _ HR1) (fun hHeld => ?_)
      clear hK K
      try simp only [act_all]
      refine wpAnyH_ready (rs := [9]) (by kernel_rfl) (by simp) ?_
      refine AllReadyH.cons (o := _) rfl (fun K hK => ?_) AllReadyH.nil
      go_simp
      refine hK.out _ _ (G3.out _ HR1) (fun hHeld => ?_)
      clear hK K
      try simp only [act_all]
      refine wpAnyH_ready (rs := [10]) (by kernel_rfl) (by simp) ?_
      refine AllReadyH.cons (o := _) rfl (fun K hK => ?_) AllReadyH.nil
      go_simp
      refine hK.out _ _ (G3.out _ HR1) (fun hHeld => ?_)
      clear hK K
      try simp only [act_all]
      refine wpAnyH_take (i := 11) (oi := _) (v := ?_) rfl (by kernel_rfl) (by kernel_rfl) (by kernel_rfl) (fun _ _ _ h => h) (Or.inl ⟨by rfl, ?_⟩) (by assumption) ?_
      rotate_left
      · intro w hSw; obtain ⟨_, _, _, _, _, _, _, _, _, _, _, _⟩ := hSw; go_simp; (try with_reducible rfl)
      try change wpAnyH _ _ _ _ _ _ _ (Act.put _ (some 36) _) _
      try simp only [act_all]
      refine wpAnyH_done (by kernel_rfl) ?_ _
      have DA := HDC.out.trans (HR1.mono HDC.out.size)
      go_wp2_with fail
      refine (eawake_any _).mono ?_
      rintro e wz ⟨rfl, hb⟩
      have DZ : Below w.heap.size w wz := DA.trans (hb.mono DA.size)
      clear hb
      go_wp2_with fail
      go_returns
      exact ⟨rfl, DZ⟩
    | true =>
      cases ib2 with
      | false =>
        have HDs : Below wc.heap.size wc wc := Below.refl _ _
        have HDd : Below wc.heap.size wc wc.drew := HDs.drew
        refine wp_region_held_drew (S := fun w' => w'.cell? ⟨w.heap.size, 0, none⟩ = some (.int .i64 a) ∧ w'.cell? ⟨w.heap.size, 1, none⟩ = some (.int .i64 b) ∧ w'.cell? ⟨w.heap.size, 2, none⟩ = some (.int .i64 c) ∧ w'.cell? ⟨w.heap.size, 3, none⟩ = some (.int .i64 d) ∧ w'.cell? ⟨w.heap.size + 1, 0, none⟩ = some (.int .i64 s) ∧ w'.cell? ⟨w.heap.size + 1, 1, none⟩ = some (.int .i64 t) ∧ w'.cell? ⟨PB, 0, none⟩ = some (.int .i64 p1) ∧ w'.cell? ⟨PB, 1, none⟩ = some (.int .i64 p2) ∧ w'.cell? ⟨PB, 2, none⟩ = some (.int .i64 p3) ∧ w'.cell? ⟨PB, 3, none⟩ = some (.int .i64 p4) ∧ w'.cell? ⟨b8, 0, none⟩ = some (.int .i64 r1) ∧ w'.cell? ⟨b8, 1, none⟩ = some (.int .i64 r2)) (by kernel_rfl) (G3.out _ HDd) (fun hHeld => ?_)
        refine wpAnyH_take (i := 0) (oi := _) (v := ?_) rfl (by kernel_rfl) (by kernel_rfl) (by kernel_rfl) (fun _ _ _ h => h) (Or.inl ⟨by rfl, ?_⟩) (by assumption) ?_
        rotate_left
        · intro w hSw; obtain ⟨_, _, _, _, _, _, _, _, _, _, _, _⟩ := hSw; go_simp; (try with_reducible rfl)
        try change wpAnyH _ _ _ _ _ _ _ (Act.put _ (some 25) _) _
        try simp only [act_all]
        refine wpAnyH_take (i := 1) (oi := _) (v := ?_) rfl (by kernel_rfl) (by kernel_rfl) (by kernel_rfl) (fun _ _ _ h => h) (Or.inl ⟨by rfl, ?_⟩) (by assumption) ?_
        rotate_left
        · intro w hSw; obtain ⟨_, _, _, _, _, _, _, _, _, _, _, _⟩ := hSw; go_simp; (try with_reducible rfl)
        try change wpAnyH _ _ _ _ _ _ _ (Act.put _ (some 26) _) _
        try simp only [act_all]
        refine wpAnyH_ready (rs := [2]) (by kernel_rfl) (by simp) ?_
        refine AllReadyH.cons (o := _) rfl (fun K hK => ?_) AllReadyH.nil
        go_simp
        refine (inL_any a b c d p1 p2 p3 p4 _).mono ?_
        rw [HB1.out]
        rintro e wr2 ⟨he, hb⟩
        obtain rfl : e = .returned (.bool true) := he
        have HR2 : Below wc.heap.size wc wr2 := HDd.trans (hb.mono HDd.size)
        clear hb hHeld
        refine hK.out _ _ (G3.out _ HR2) (fun hHeld => ?_)
        clear hK K
        try simp only [act_all]
        refine wpAnyH_take (i := 3) (oi := _) (v := ?_) rfl (by kernel_rfl) (by kernel_rfl) (by kernel_rfl) (fun _ _ _ h => h) (Or.inl ⟨by rfl, ?_⟩) (by assumption) ?_
        rotate_left
        · intro w hSw; obtain ⟨_, _, _, _, _, _, _, _, _, _, _, _⟩ := hSw; go_simp; (try with_reducible rfl)
        try change wpAnyH _ _ _ _ _ _ _ (Act.put _ (some 28) _) _
        try simp only [act_all]
        refine wpAnyH_take (i := 4) (oi := _) (v := ?_) rfl (by kernel_rfl) (by kernel_rfl) (by kernel_rfl) (fun _ _ _ h => h) (Or.inl ⟨by rfl, ?_⟩) (by assumption) ?_
        rotate_left
        · intro w hSw; obtain ⟨_, _, _, _, _, _, _, _, _, _, _, _⟩ := hSw; go_simp; (try with_reducible rfl)
        try change wpAnyH _ _ _ _ _ _ _ (Act.put _ (some 29) _) _
        try simp only [act_all]
        refine wpAnyH_take (i := 5) (oi := _) (v := ?_) rfl (by kernel_rfl) (by kernel_rfl) (by kernel_rfl) (fun _ _ _ h => h) (Or.inl ⟨by rfl, ?_⟩) (by assumption) ?_
        rotate_left
        · intro w hSw; obtain ⟨_, _, _, _, _, _, _, _, _, _, _, _⟩ := hSw; go_simp; (try with_reducible rfl)
        try change wpAnyH _ _ _ _ _ _ _ (Act.put _ (some 30) _) _
        try simp only [act_all]
        refine wpAnyH_take (i := 7) (oi := _) (v := ?_) rfl (by kernel_rfl) (by kernel_rfl) (by kernel_rfl) (fun _ _ _ h => h) (Or.inl ⟨by rfl, ?_⟩) (by assumption) ?_
        rotate_left
        · intro w hSw; obtain ⟨_, _, _, _, _, _, _, _, _, _, _, _⟩ := hSw; go_simp; (try with_reducible rfl)
        try change wpAnyH _ _ _ _ _ _ _ (Act.put _ (some 32) _) _
        try simp only [act_all]
        refine wpAnyH_ready (rs := [6]) (by kernel_rfl) (by simp) ?_
        refine AllReadyH.cons (o := _) rfl (fun K hK => ?_) AllReadyH.nil
        go_simp
        refine (wideL2_any s t _).mono ?_
        rintro e wr3 ⟨he, hb⟩
        obtain rfl : e = .returned (.agg #[.int .i64 s, .int .i64 t, .int .i64 0, .int .i64 0]) := he
        have HR3 : Below wc.heap.size wc wr3 := HR2.trans (hb.mono HR2.size)
        clear hb hHeld
        refine hK.out _ _ (G3.out _ HR3) (fun hHeld => ?_)
        clear hK K
        try simp only [act_all]
        refine wpAnyH_ready (rs := [8]) (by kernel_rfl) (by simp) ?_
        refine AllReadyH.cons (o := _) rfl (fun K hK => ?_) AllReadyH.nil
        go_simp
        refine (wideL2_any r1 r2 _).mono ?_
        rintro e wr4 ⟨he, hb⟩
        obtain rfl : e = .returned (.agg #[.int .i64 r1, .int .i64 r2, .int .i64 0, .int .i64 0]) := he
        have HR4 : Below wc.heap.size wc wr4 := HR3.trans (hb.mono HR3.size)
        clear hb hHeld
        refine hK.out _ _ (G3.out _ HR4) (fun hHeld => ?_)
        clear hK K
        try simp only [act_all]
        refine wpAnyH_ready (rs := [9]) (by kernel_rfl) (by simp) ?_
        refine AllReadyH.cons (o := _) rfl (fun K hK => ?_) AllReadyH.nil
        go_simp
        refine (inL_any s t 0 0 r1 r2 0 0 _).mono ?_
        rw [HB2.out]
        rintro e wr5 ⟨he, hb⟩
        obtain rfl : e = .returned (.bool false) := he
        have HR5 : Below wc.heap.size wc wr5 := HR4.trans (hb.mono HR4.size)
        clear hb hHeld
        refine hK.out _ _ (G3.out _ HR5) (fun hHeld => ?_)
        clear hK K
        try simp only [act_all]
        refine wpAnyH_take (i := 10) (oi := _) (v := ?_) rfl (by kernel_rfl) (by kernel_rfl) (by kernel_rfl) (fun _ _ _ h => h) (Or.inl ⟨by rfl, ?_⟩) (by assumption) ?_
        rotate_left
        · intro w hSw; obtain ⟨_, _, _, _, _, _, _, _, _, _, _, _⟩ := hSw; go_simp; (try with_reducible rfl)
        try change wpAnyH _ _ _ _ _ _ _ (Act.put _ (some 35) _) _
        try simp only [act_all]
        refine wpAnyH_take (i := 11) (oi := _) (v := ?_) rfl (by kernel_rfl) (by kernel_rfl) (by kernel_rfl) (fun _ _ _ h => h) (Or.inl ⟨by rfl, ?_⟩) (by assumption) ?_
        rotate_left
        · intro w hSw; obtain ⟨_, _, _, _, _, _, _, _, _, _, _, _⟩ := hSw; go_simp; (try with_reducible rfl)
        try change wpAnyH _ _ _ _ _ _ _ (Act.put _ (some 36) _) _
        try simp only [act_all]
        refine wpAnyH_done (by kernel_rfl) ?_ _
        have DA := HDC.out.trans (HR5.mono HDC.out.size)
        go_wp2_with fail
        refine (eawake_any _).mono ?_
        rintro e wz ⟨rfl, hb⟩
        have DZ : Below w.heap.size w wz := DA.trans (hb.mono DA.size)
        clear hb
        go_wp2_with fail
        go_returns
        exact ⟨rfl, DZ⟩
      | true =>
        have HDs : Below wc.heap.size wc wc := Below.refl _ _
        have HDd : Below wc.heap.size wc wc.drew := HDs.drew
        refine wp_region_held_drew (S := fun w' => w'.cell? ⟨w.heap.size, 0, none⟩ = some (.int .i64 a) ∧ w'.cell? ⟨w.heap.size, 1, none⟩ = some (.int .i64 b) ∧ w'.cell? ⟨w.heap.size, 2, none⟩ = some (.int .i64 c) ∧ w'.cell? ⟨w.heap.size, 3, none⟩ = some (.int .i64 d) ∧ w'.cell? ⟨w.heap.size + 1, 0, none⟩ = some (.int .i64 s) ∧ w'.cell? ⟨w.heap.size + 1, 1, none⟩ = some (.int .i64 t) ∧ w'.cell? ⟨PB, 0, none⟩ = some (.int .i64 p1) ∧ w'.cell? ⟨PB, 1, none⟩ = some (.int .i64 p2) ∧ w'.cell? ⟨PB, 2, none⟩ = some (.int .i64 p3) ∧ w'.cell? ⟨PB, 3, none⟩ = some (.int .i64 p4) ∧ w'.cell? ⟨b8, 0, none⟩ = some (.int .i64 r1) ∧ w'.cell? ⟨b8, 1, none⟩ = some (.int .i64 r2)) (by kernel_rfl) (G3.out _ HDd) (fun hHeld => ?_)
        refine wpAnyH_take (i := 0) (oi := _) (v := ?_) rfl (by kernel_rfl) (by kernel_rfl) (by kernel_rfl) (fun _ _ _ h => h) (Or.inl ⟨by rfl, ?_⟩) (by assumption) ?_
        rotate_left
        · intro w hSw; obtain ⟨_, _, _, _, _, _, _, _, _, _, _, _⟩ := hSw; go_simp; (try with_reducible rfl)
        try change wpAnyH _ _ _ _ _ _ _ (Act.put _ (some 25) _) _
        try simp only [act_all]
        refine wpAnyH_take (i := 1) (oi := _) (v := ?_) rfl (by kernel_rfl) (by kernel_rfl) (by kernel_rfl) (fun _ _ _ h => h) (Or.inl ⟨by rfl, ?_⟩) (by assumption) ?_
        rotate_left
        · intro w hSw; obtain ⟨_, _, _, _, _, _, _, _, _, _, _, _⟩ := hSw; go_simp; (try with_reducible rfl)
        try change wpAnyH _ _ _ _ _ _ _ (Act.put _ (some 26) _) _
        try simp only [act_all]
        refine wpAnyH_ready (rs := [2]) (by kernel_rfl) (by simp) ?_
        refine AllReadyH.cons (o := _) rfl (fun K hK => ?_) AllReadyH.nil
        go_simp
        refine (inL_any a b c d p1 p2 p3 p4 _).mono ?_
        rw [HB1.out]
        rintro e wr6 ⟨he, hb⟩
        obtain rfl : e = .returned (.bool true) := he
        have HR6 : Below wc.heap.size wc wr6 := HDd.trans (hb.mono HDd.size)
        clear hb hHeld
        refine hK.out _ _ (G3.out _ HR6) (fun hHeld => ?_)
        clear hK K
        try simp only [act_all]
        refine wpAnyH_take (i := 3) (oi := _) (v := ?_) rfl (by kernel_rfl) (by kernel_rfl) (by kernel_rfl) (fun _ _ _ h => h) (Or.inl ⟨by rfl, ?_⟩) (by assumption) ?_
        rotate_left
        · intro w hSw; obtain ⟨_, _, _, _, _, _, _, _, _, _, _, _⟩ := hSw; go_simp; (try with_reducible rfl)
        try change wpAnyH _ _ _ _ _ _ _ (Act.put _ (some 28) _) _
        try simp only [act_all]
        refine wpAnyH_take (i := 4) (oi := _) (v := ?_) rfl (by kernel_rfl) (by kernel_rfl) (by kernel_rfl) (fun _ _ _ h => h) (Or.inl ⟨by rfl, ?_⟩) (by assumption) ?_
        rotate_left
        · intro w hSw; obtain ⟨_, _, _, _, _, _, _, _, _, _, _, _⟩ := hSw; go_simp; (try with_reducible rfl)
        try change wpAnyH _ _ _ _ _ _ _ (Act.put _ (some 29) _) _
        try simp only [act_all]
        refine wpAnyH_take (i := 5) (oi := _) (v := ?_) rfl (by kernel_rfl) (by kernel_rfl) (by kernel_rfl) (fun _ _ _ h => h) (Or.inl ⟨by rfl, ?_⟩) (by assumption) ?_
        rotate_left
        · intro w hSw; obtain ⟨_, _, _, _, _, _, _, _, _, _, _, _⟩ := hSw; go_simp; (try with_reducible rfl)
        try change wpAnyH _ _ _ _ _ _ _ (Act.put _ (some 30) _) _
        try simp only [act_all]
        refine wpAnyH_take (i := 7) (oi := _) (v := ?_) rfl (by kernel_rfl) (by kernel_rfl) (by kernel_rfl) (fun _ _ _ h => h) (Or.inl ⟨by rfl, ?_⟩) (by assumption) ?_
        rotate_left
        · intro w hSw; obtain ⟨_, _, _, _, _, _, _, _, _, _, _, _⟩ := hSw; go_simp; (try with_reducible rfl)
        try change wpAnyH _ _ _ _ _ _ _ (Act.put _ (some 32) _) _
        try simp only [act_all]
        refine wpAnyH_ready (rs := [6]) (by kernel_rfl) (by simp) ?_
        refine AllReadyH.cons (o := _) rfl (fun K hK => ?_) AllReadyH.nil
        go_simp
        refine (wideL2_any s t _).mono ?_
        rintro e wr7 ⟨he, hb⟩
        obtain rfl : e = .returned (.agg #[.int .i64 s, .int .i64 t, .int .i64 0, .int .i64 0]) := he
        have HR7 : Below wc.heap.size wc wr7 := HR6.trans (hb.mono HR6.size)
        clear hb hHeld
        refine hK.out _ _ (G3.out _ HR7) (fun hHeld => ?_)
        clear hK K
        try simp only [act_all]
        refine wpAnyH_ready (rs := [8]) (by kernel_rfl) (by simp) ?_
        refine AllReadyH.cons (o := _) rfl (fun K hK => ?_) AllReadyH.nil
        go_simp
        refine (wideL2_any r1 r2 _).mono ?_
        rintro e wr8 ⟨he, hb⟩
        obtain rfl : e = .returned (.agg #[.int .i64 r1, .int .i64 r2, .int .i64 0, .int .i64 0]) := he
        have HR8 : Below wc.heap.size wc wr8 := HR7.trans (hb.mono HR7.size)
        clear hb hHeld
        refine hK.out _ _ (G3.out _ HR8) (fun hHeld => ?_)
        clear hK K
        try simp only [act_all]
        refine wpAnyH_ready (rs := [9]) (by kernel_rfl) (by simp) ?_
        refine AllReadyH.cons (o := _) rfl (fun K hK => ?_) AllReadyH.nil
        go_simp
        refine (inL_any s t 0 0 r1 r2 0 0 _).mono ?_
        rw [HB2.out]
        rintro e wr9 ⟨he, hb⟩
        obtain rfl : e = .returned (.bool true) := he
        have HR9 : Below wc.heap.size wc wr9 := HR8.trans (hb.mono HR8.size)
        clear hb hHeld
        refine hK.out _ _ (G3.out _ HR9) (fun hHeld => ?_)
        clear hK K
        try simp only [act_all]
        refine wpAnyH_take (i := 10) (oi := _) (v := ?_) rfl (by kernel_rfl) (by kernel_rfl) (by kernel_rfl) (fun _ _ _ h => h) (Or.inl ⟨by rfl, ?_⟩) (by assumption) ?_
        rotate_left
        · intro w hSw; obtain ⟨_, _, _, _, _, _, _, _, _, _, _, _⟩ := hSw; go_simp; (try with_reducible rfl)
        try change wpAnyH _ _ _ _ _ _ _ (Act.put _ (some 35) _) _
        try simp only [act_all]
        refine wpAnyH_take (i := 11) (oi := _) (v := ?_) rfl (by kernel_rfl) (by kernel_rfl) (by kernel_rfl) (fun _ _ _ h => h) (Or.inl ⟨by rfl, ?_⟩) (by assumption) ?_
        rotate_left
        · intro w hSw; obtain ⟨_, _, _, _, _, _, _, _, _, _, _, _⟩ := hSw; go_simp; (try with_reducible rfl)
        try change wpAnyH _ _ _ _ _ _ _ (Act.put _ (some 36) _) _
        try simp only [act_all]
        refine wpAnyH_done (by kernel_rfl) ?_ _
        have DV := HDC.out.trans (HR9.mono HDC.out.size)
        obtain ⟨x0, x1, x2, x3, y0, y1, p0, p1', p2', p3', rc0, rc1⟩ := G3.out _ HR9
        have l0 : w.heap.size < wr9.heap.size := by have := HR9.size; omega
        have l1 : w.heap.size + 1 < wr9.heap.size := by have := HR9.size; omega
        have l2 : PB < wr9.heap.size := by have := HR9.size; omega
        have l3 : b8 < wr9.heap.size := by have := HR9.size; omega
        clear hHeld
        obtain ⟨a1, a2, b1, b2, er, ek, ha, hb, hd⟩ := hold_of2 (o := powO ⟨⟨a, b⟩, ⟨c, d⟩⟩) (oo := powO ⟨⟨p1, p2⟩, ⟨p3, p4⟩⟩) (hold_power HB1.out) (ne0_powO _)
        have HPA := Lib.hid ha
        have HPB := Lib.hid hb
        have HPD := Lib.hid hd
        clear ha hb hd
        go_wp2_with fail
        refine (ePower_any a b c d _).mono ?_
        rw [HPA.out]
        rintro e wq201 ⟨he, hb⟩
        obtain rfl : e = .returned (.tuple #[.agg #[.int .i64 a1, .int .i64 a2], .int .i64 er]) := he
        have hs201 := hb.size
        (try simp at hs201)
        have DS201 : Below w.heap.size w wq201 := Below.trans (by go_grown) (hb.mono (by have := DV.size; first | omega | (simp; done) | (simp; omega)))
        obtain ⟨k1, k2⟩ := bcl hb
        have x0_201 := (k1 (w.heap.size) 0 (by first | omega | (simp; done) | (simp; omega))).trans (((Below.refl wr9.heap.size wr9).cell (p := ⟨w.heap.size, 0, none⟩) (by simp only; omega)).trans x0)
        have x1_201 := (k1 (w.heap.size) 1 (by first | omega | (simp; done) | (simp; omega))).trans (((Below.refl wr9.heap.size wr9).cell (p := ⟨w.heap.size, 1, none⟩) (by simp only; omega)).trans x1)
        have x2_201 := (k1 (w.heap.size) 2 (by first | omega | (simp; done) | (simp; omega))).trans (((Below.refl wr9.heap.size wr9).cell (p := ⟨w.heap.size, 2, none⟩) (by simp only; omega)).trans x2)
        have x3_201 := (k1 (w.heap.size) 3 (by first | omega | (simp; done) | (simp; omega))).trans (((Below.refl wr9.heap.size wr9).cell (p := ⟨w.heap.size, 3, none⟩) (by simp only; omega)).trans x3)
        have y0_201 := (k1 (w.heap.size + 1) 0 (by first | omega | (simp; done) | (simp; omega))).trans (((Below.refl wr9.heap.size wr9).cell (p := ⟨w.heap.size + 1, 0, none⟩) (by simp only; omega)).trans y0)
        have y1_201 := (k1 (w.heap.size + 1) 1 (by first | omega | (simp; done) | (simp; omega))).trans (((Below.refl wr9.heap.size wr9).cell (p := ⟨w.heap.size + 1, 1, none⟩) (by simp only; omega)).trans y1)
        have p0_201 := (k1 (PB) 0 (by first | omega | (simp; done) | (simp; omega))).trans (((Below.refl wr9.heap.size wr9).cell (p := ⟨PB, 0, none⟩) (by simp only; omega)).trans p0)
        have p1'_201 := (k1 (PB) 1 (by first | omega | (simp; done) | (simp; omega))).trans (((Below.refl wr9.heap.size wr9).cell (p := ⟨PB, 1, none⟩) (by simp only; omega)).trans p1')
        have p2'_201 := (k1 (PB) 2 (by first | omega | (simp; done) | (simp; omega))).trans (((Below.refl wr9.heap.size wr9).cell (p := ⟨PB, 2, none⟩) (by simp only; omega)).trans p2')
        have p3'_201 := (k1 (PB) 3 (by first | omega | (simp; done) | (simp; omega))).trans (((Below.refl wr9.heap.size wr9).cell (p := ⟨PB, 3, none⟩) (by simp only; omega)).trans p3')
        have rc0_201 := (k1 (b8) 0 (by first | omega | (simp; done) | (simp; omega))).trans (((Below.refl wr9.heap.size wr9).cell (p := ⟨b8, 0, none⟩) (by simp only; omega)).trans rc0)
        have rc1_201 := (k1 (b8) 1 (by first | omega | (simp; done) | (simp; omega))).trans (((Below.refl wr9.heap.size wr9).cell (p := ⟨b8, 1, none⟩) (by simp only; omega)).trans rc1)
        have l201_0 : w.heap.size < wq201.heap.size := by omega
        have l201_1 : w.heap.size + 1 < wq201.heap.size := by omega
        have l201_2 : PB < wq201.heap.size := by omega
        have l201_3 : b8 < wq201.heap.size := by omega
        clear hb hs201 k1 k2 x0 x1 x2 x3 y0 y1 p0 p1' p2' p3' rc0 rc1 l0 l1 l2 l3 DV
        have oo1 := l201_1
        have oo2 := l201_3
        have oo3 := l201_0
        go_wp2_with fail
        refine (ePower_any p1 p2 p3 p4 _).mono ?_
        rw [HPB.out]
        rintro e wq202 ⟨he, hb⟩
        obtain rfl : e = .returned (.tuple #[.agg #[.int .i64 b1, .int .i64 b2], .int .i64 ek]) := he
        have hs202 := hb.size
        (try simp at hs202)
        have DS202 : Below w.heap.size w wq202 := Below.trans (by go_grown) (hb.mono (by have := DS201.size; first | omega | (simp; done) | (simp; omega)))
        obtain ⟨k1, k2⟩ := bcl hb
        have y0_202 := (k1 (w.heap.size + 1) 0 (by first | omega | (simp; done) | (simp; omega))).trans (((bal (Below.refl wq201.heap.size wq201) (Obj.cells #[.int .i64 a1, .int .i64 a2] 23)).cell (p := ⟨w.heap.size + 1, 0, none⟩) (by simp only; omega)).trans y0_201)
        have y1_202 := (k1 (w.heap.size + 1) 1 (by first | omega | (simp; done) | (simp; omega))).trans (((bal (Below.refl wq201.heap.size wq201) (Obj.cells #[.int .i64 a1, .int .i64 a2] 23)).cell (p := ⟨w.heap.size + 1, 1, none⟩) (by simp only; omega)).trans y1_201)
        have rc0_202 := (k1 (b8) 0 (by first | omega | (simp; done) | (simp; omega))).trans (((bal (Below.refl wq201.heap.size wq201) (Obj.cells #[.int .i64 a1, .int .i64 a2] 23)).cell (p := ⟨b8, 0, none⟩) (by simp only; omega)).trans rc0_201)
        have rc1_202 := (k1 (b8) 1 (by first | omega | (simp; done) | (simp; omega))).trans (((bal (Below.refl wq201.heap.size wq201) (Obj.cells #[.int .i64 a1, .int .i64 a2] 23)).cell (p := ⟨b8, 1, none⟩) (by simp only; omega)).trans rc1_201)
        have an0_202 := (k1 (wq201.heap.size) 0 (by first | omega | (simp; done) | (simp; omega))).trans (by go_cell : _ = some (.int .i64 a1))
        have anz0_202 := (k2 (wq201.heap.size) 0 (by first | omega | (simp; done) | (simp; omega))).trans (by go_cell : _ = false)
        have an1_202 := (k1 (wq201.heap.size) 1 (by first | omega | (simp; done) | (simp; omega))).trans (by go_cell : _ = some (.int .i64 a2))
        have anz1_202 := (k2 (wq201.heap.size) 1 (by first | omega | (simp; done) | (simp; omega))).trans (by go_cell : _ = false)
        have l202_0 : w.heap.size < wq202.heap.size := by omega
        have l202_1 : w.heap.size + 1 < wq202.heap.size := by omega
        have l202_2 : PB < wq202.heap.size := by omega
        have l202_3 : b8 < wq202.heap.size := by omega
        have l202_4 : wq201.heap.size < wq202.heap.size := by omega
        clear hb hs202 k1 k2 x0_201 x1_201 x2_201 x3_201 y0_201 y1_201 p0_201 p1'_201 p2'_201 p3'_201 rc0_201 rc1_201 l201_0 l201_1 l201_2 l201_3 DS201
        go_upto_region 7 with fail
        have b3 : Below wq202.heap.size wq202 (wq202.alloc (Obj.cells #[.int .i64 b1, .int .i64 b2] 23)) := bal (Below.refl _ _) _
        have DE : Below w.heap.size w (wq202.alloc (Obj.cells #[.int .i64 b1, .int .i64 b2] 23)) := DS202.trans (b3.mono DS202.size)
        have Ey0_202 := (b3.cell (p := ⟨w.heap.size + 1, 0, none⟩) l202_1).trans y0_202
        have Ey1_202 := (b3.cell (p := ⟨w.heap.size + 1, 1, none⟩) l202_1).trans y1_202
        have Erc0_202 := (b3.cell (p := ⟨b8, 0, none⟩) l202_3).trans rc0_202
        have Erc1_202 := (b3.cell (p := ⟨b8, 1, none⟩) l202_3).trans rc1_202
        have Ean0_202 := (b3.cell (p := ⟨wq201.heap.size, 0, none⟩) l202_4).trans an0_202
        have Eanz0_202 := (b3.frozen (p := ⟨wq201.heap.size, 0, none⟩) l202_4).trans anz0_202
        have Ean1_202 := (b3.cell (p := ⟨wq201.heap.size, 1, none⟩) l202_4).trans an1_202
        have Eanz1_202 := (b3.frozen (p := ⟨wq201.heap.size, 1, none⟩) l202_4).trans anz1_202
        have Eb0 : (wq202.alloc (Obj.cells #[.int .i64 b1, .int .i64 b2] 23)).cell? ⟨wq202.heap.size, 0, none⟩ = some (.int .i64 b1) := by go_cell
        have Ebz0 : (wq202.alloc (Obj.cells #[.int .i64 b1, .int .i64 b2] 23)).frozen? ⟨wq202.heap.size, 0, none⟩ = false := by go_cell
        have Eb1 : (wq202.alloc (Obj.cells #[.int .i64 b1, .int .i64 b2] 23)).cell? ⟨wq202.heap.size, 1, none⟩ = some (.int .i64 b2) := by go_cell
        have Ebz1 : (wq202.alloc (Obj.cells #[.int .i64 b1, .int .i64 b2] 23)).frozen? ⟨wq202.heap.size, 1, none⟩ = false := by go_cell
        have sE : wq202.heap.size < (wq202.alloc (Obj.cells #[.int .i64 b1, .int .i64 b2] 23)).heap.size := by simp
        have sE0 : w.heap.size + 1 < (wq202.alloc (Obj.cells #[.int .i64 b1, .int .i64 b2] 23)).heap.size := by simp; omega
        have sE1 : b8 < (wq202.alloc (Obj.cells #[.int .i64 b1, .int .i64 b2] 23)).heap.size := by simp; omega
        have sE2 : wq201.heap.size < (wq202.alloc (Obj.cells #[.int .i64 b1, .int .i64 b2] 23)).heap.size := by simp; omega
        have ab_ne : ¬ wq201.heap.size = wq202.heap.size := by omega
        have ab_ne' : ¬ wq202.heap.size = wq201.heap.size := by omega
        have q1 : ¬ wq201.heap.size = w.heap.size + 1 := by omega
        have q2 : ¬ wq201.heap.size = b8 := by omega
        have q3 : ¬ wq202.heap.size = b8 := by omega
        have q4 : ¬ wq202.heap.size = w.heap.size + 1 := by omega
        have q5 : w.heap.size ≤ wq201.heap.size := by omega
        have q6 : w.heap.size ≤ wq202.heap.size := by omega
        clear b3 DS202 y0_202 y1_202 rc0_202 rc1_202 an0_202 anz0_202 an1_202 anz1_202 l202_0 l202_1 l202_2 l202_3 l202_4
        generalize (wq202.alloc (Obj.cells #[.int .i64 b1, .int .i64 b2] 23)) = V at *
        generalize wq202.heap.size = BB at *
        generalize wq201.heap.size = AB at *
        have G7 : Hid (∀ w', Below V.heap.size V w' → w'.cell? ⟨w.heap.size + 1, 0, none⟩ = some (.int .i64 s) ∧ w'.cell? ⟨w.heap.size + 1, 1, none⟩ = some (.int .i64 t) ∧ w'.cell? ⟨b8, 0, none⟩ = some (.int .i64 r1) ∧ w'.cell? ⟨b8, 1, none⟩ = some (.int .i64 r2) ∧ w'.cell? ⟨AB, 0, none⟩ = some (.int .i64 a1) ∧ w'.cell? ⟨AB, 1, none⟩ = some (.int .i64 a2) ∧ w'.cell? ⟨BB, 0, none⟩ = some (.int .i64 b1) ∧ w'.cell? ⟨BB, 1, none⟩ = some (.int .i64 b2)) := Lib.hid (fun w' hb => ⟨(hb.cell (p := ⟨w.heap.size + 1, 0, none⟩) (by simp only; omega)).trans Ey0_202, (hb.cell (p := ⟨w.heap.size + 1, 1, none⟩) (by simp only; omega)).trans Ey1_202, (hb.cell (p := ⟨b8, 0, none⟩) (by simp only; omega)).trans Erc0_202, (hb.cell (p := ⟨b8, 1, none⟩) (by simp only; omega)).trans Erc1_202, (hb.cell (p := ⟨AB, 0, none⟩) (by simp only; omega)).trans Ean0_202, (hb.cell (p := ⟨AB, 1, none⟩) (by simp only; omega)).trans Ean1_202, (hb.cell (p := ⟨BB, 0, none⟩) (by simp only; omega)).trans Eb0, (hb.cell (p := ⟨BB, 1, none⟩) (by simp only; omega)).trans Eb1⟩)
        have G8 : Hid (∀ w', Below V.heap.size V w' → w'.frozen? ⟨AB, 0, none⟩ = false ∧ w'.frozen? ⟨AB, 1, none⟩ = false ∧ w'.frozen? ⟨BB, 0, none⟩ = false ∧ w'.frozen? ⟨BB, 1, none⟩ = false) := Lib.hid (fun w' hb => ⟨(hb.frozen (p := ⟨AB, 0, none⟩) (by simp only; omega)).trans Eanz0_202, (hb.frozen (p := ⟨AB, 1, none⟩) (by simp only; omega)).trans Eanz1_202, (hb.frozen (p := ⟨BB, 0, none⟩) (by simp only; omega)).trans Ebz0, (hb.frozen (p := ⟨BB, 1, none⟩) (by simp only; omega)).trans Ebz1⟩)
        have HDE := Lib.hid DE
        clear DE Ey0_202 Ey1_202 Erc0_202 Erc1_202 Ean0_202 Ean1_202 Eb0 Eb1 Eanz0_202 Eanz1_202 Ebz0 Ebz1
        go_cut [61] (fun v61 wx => v61 = .bool false ∧ Below V.heap.size V wx)
        case first =>
          rcases HPD.out with ⟨he1, he2, hin⟩ | hne
          · have HIN := Lib.hid hin
            have u1 : (er == 0) = true := beq_iff_eq.2 he1
            have u2 : (er != 0) = false := by simp [he1]
            have u3 : (ek == 0) = true := beq_iff_eq.2 he2
            have u4 : (ek != 0) = false := by simp [he2]
            clear he1 he2 hin
            have HDs : Below V.heap.size V V := Below.refl _ _
            have HDd : Below V.heap.size V V.drew := HDs.drew
            refine wp_region_held_drew (S := fun w' => w'.cell? ⟨w.heap.size + 1, 0, none⟩ = some (.int .i64 s) ∧ w'.cell? ⟨w.heap.size + 1, 1, none⟩ = some (.int .i64 t) ∧ w'.cell? ⟨b8, 0, none⟩ = some (.int .i64 r1) ∧ w'.cell? ⟨b8, 1, none⟩ = some (.int .i64 r2) ∧ w'.cell? ⟨AB, 0, none⟩ = some (.int .i64 a1) ∧ w'.cell? ⟨AB, 1, none⟩ = some (.int .i64 a2) ∧ w'.cell? ⟨BB, 0, none⟩ = some (.int .i64 b1) ∧ w'.cell? ⟨BB, 1, none⟩ = some (.int .i64 b2)) (by kernel_rfl) (G7.out _ HDd) (fun hHeld => ?_)
            refine wpAnyH_take (i := 0) (oi := _) (v := ?_) rfl (by kernel_rfl) (by kernel_rfl) (by kernel_rfl) (fun _ _ _ h => h) (Or.inl ⟨by rfl, ?_⟩) (by assumption) ?_
            rotate_left
            · intro w hSw; obtain ⟨_, _, _, _, _, _, _, _⟩ := hSw; go_simp; (try with_reducible rfl)
            try change wpAnyH _ _ _ _ _ _ _ (Act.put _ (some 48) _) _
            try simp only [act_all]
            refine wpAnyH_take (i := 1) (oi := _) (v := ?_) rfl (by kernel_rfl) (by kernel_rfl) (by kernel_rfl) (fun _ _ _ h => h) (Or.inl ⟨by rfl, ?_⟩) (by assumption) ?_
            rotate_left
            · intro w hSw; obtain ⟨_, _, _, _, _, _, _, _⟩ := hSw; go_simp; (try with_reducible rfl)
            try change wpAnyH _ _ _ _ _ _ _ (Act.put _ (some 49) _) _
            try simp only [act_all]
            refine wpAnyH_take (i := 2) (oi := _) (v := ?_) rfl (by kernel_rfl) (by kernel_rfl) (by kernel_rfl) (fun _ _ _ h => h) (Or.inl ⟨by rfl, ?_⟩) (by assumption) ?_
            rotate_left
            · intro w hSw; obtain ⟨_, _, _, _, _, _, _, _⟩ := hSw; go_simp; (try with_reducible rfl)
            try change wpAnyH _ _ _ _ _ _ _ (Act.put _ (some 50) _) _
            try simp only [act_all]
            refine wpAnyH_take (i := 3) (oi := _) (v := ?_) rfl (by kernel_rfl) (by kernel_rfl) (by kernel_rfl) (fun _ _ _ h => h) (Or.inl ⟨by rfl, ?_⟩) (by assumption) ?_
            rotate_left
            · intro w hSw; obtain ⟨_, _, _, _, _, _, _, _⟩ := hSw; go_simp; (try with_reducible rfl)
            try change wpAnyH _ _ _ _ _ _ _ (Act.put _ (some 51) _) _
            try simp only [act_all]
            refine wpAnyH_take (i := 4) (oi := _) (v := ?_) rfl (by kernel_rfl) (by kernel_rfl) (by kernel_rfl) (fun _ _ _ h => h) (Or.inl ⟨by rfl, ?_⟩) (by assumption) ?_
            rotate_left
            · intro w hSw; obtain ⟨_, _, _, _, _, _, _, _⟩ := hSw; go_simp; (try with_reducible rfl)
            try change wpAnyH _ _ _ _ _ _ _ (Act.put _ (some 52) _) _
            try simp only [act_all]
            refine wpAnyH_take (i := 5) (oi := _) (v := ?_) rfl (by kernel_rfl) (by kernel_rfl) (by kernel_rfl) (fun _ _ _ h => h) (Or.inl ⟨by rfl, ?_⟩) (by assumption) ?_
            rotate_left
            · intro w hSw; obtain ⟨_, _, _, _, _, _, _, _⟩ := hSw; go_simp; (try with_reducible rfl)
            try change wpAnyH _ _ _ _ _ _ _ (Act.put _ (some 53) _) _
            try simp only [act_all]
            refine wpAnyH_take (i := 6) (oi := _) (v := ?_) rfl (by kernel_rfl) (by kernel_rfl) (by kernel_rfl) (fun _ _ _ h => h) (Or.inl ⟨by rfl, ?_⟩) (by assumption) ?_
            rotate_left
            · intro w hSw; obtain ⟨_, _, _, _, _, _, _, _⟩ := hSw; go_simp; (try with_reducible rfl)
            try change wpAnyH _ _ _ _ _ _ _ (Act.put _ (some 54) _) _
            try simp only [act_all]
            refine wpAnyH_take (i := 7) (oi := _) (v := ?_) rfl (by kernel_rfl) (by kernel_rfl) (by kernel_rfl) (fun _ _ _ h => h) (Or.inl ⟨by rfl, ?_⟩) (by assumption) ?_
            rotate_left
            · intro w hSw; obtain ⟨_, _, _, _, _, _, _, _⟩ := hSw; go_simp; (try with_reducible rfl)
            try change wpAnyH _ _ _ _ _ _ _ (Act.put _ (some 55) _) _
            try simp only [act_all]
            refine wpAnyH_take (i := 9) (oi := _) (v := ?_) rfl (by kernel_rfl) (by kernel_rfl) (by kernel_rfl) (fun _ _ _ h => h) (Or.inl ⟨by rfl, ?_⟩) (by assumption) ?_
            rotate_left
            · intro w hSw; obtain ⟨_, _, _, _, _, _, _, _⟩ := hSw; go_simp; (try with_reducible rfl)
            try change wpAnyH _ _ _ _ _ _ _ (Act.put _ (some 57) _) _
            try simp only [act_all]
            refine wpAnyH_ready (rs := [8]) (by kernel_rfl) (by simp) ?_
            refine AllReadyH.cons (o := _) rfl (fun K hK => ?_) AllReadyH.nil
            go_simp
            refine (wideL2_any a1 a2 _).mono ?_
            rintro e wr10 ⟨he, hb⟩
            obtain rfl : e = .returned (.agg #[.int .i64 a1, .int .i64 a2, .int .i64 0, .int .i64 0]) := he
            have HR10 : Below V.heap.size V wr10 := HDd.trans (hb.mono HDd.size)
            clear hb hHeld
            refine hK.out _ _ (G7.out _ HR10) (fun hHeld => ?_)
            clear hK K
            try simp only [act_all]
            refine wpAnyH_ready (rs := [10]) (by kernel_rfl) (by simp) ?_
            refine AllReadyH.cons (o := _) rfl (fun K hK => ?_) AllReadyH.nil
            go_simp
            refine (wideL2_any b1 b2 _).mono ?_
            rintro e wr11 ⟨he, hb⟩
            obtain rfl : e = .returned (.agg #[.int .i64 b1, .int .i64 b2, .int .i64 0, .int .i64 0]) := he
            have HR11 : Below V.heap.size V wr11 := HR10.trans (hb.mono HR10.size)
            clear hb hHeld
            refine hK.out _ _ (G7.out _ HR11) (fun hHeld => ?_)
            clear hK K
            try simp only [act_all]
            refine wpAnyH_ready (rs := [11]) (by kernel_rfl) (by simp) ?_
            refine AllReadyH.cons (o := _) rfl (fun K hK => ?_) AllReadyH.nil
            go_simp
            refine (inL_any a1 a2 0 0 b1 b2 0 0 _).mono ?_
            rw [HIN.out]
            rintro e wr12 ⟨he, hb⟩
            obtain rfl : e = .returned (.bool true) := he
            have HR12 : Below V.heap.size V wr12 := HR11.trans (hb.mono HR11.size)
            clear hb hHeld
            refine hK.out _ _ (G7.out _ HR12) (fun hHeld => ?_)
            clear hK K
            try simp only [act_all]
            refine wpAnyH_take (i := 12) (oi := _) (v := ?_) rfl (by kernel_rfl) (by kernel_rfl) (by kernel_rfl) (fun _ _ _ h => h) (Or.inl ⟨by rfl, ?_⟩) (by assumption) ?_
            rotate_left
            · intro w hSw; obtain ⟨_, _, _, _, _, _, _, _⟩ := hSw; go_simp; (try with_reducible rfl)
            try change wpAnyH _ _ _ _ _ _ _ (Act.put _ (some 60) _) _
            try simp only [act_all]
            refine wpAnyH_take (i := 13) (oi := _) (v := ?_) rfl (by kernel_rfl) (by kernel_rfl) (by kernel_rfl) (fun _ _ _ h => h) (Or.inl ⟨by rfl, ?_⟩) (by assumption) ?_
            rotate_left
            · intro w hSw; obtain ⟨_, _, _, _, _, _, _, _⟩ := hSw; go_simp; (try with_reducible rfl)
            try change wpAnyH _ _ _ _ _ _ _ (Act.put _ (some 61) _) _
            try simp only [act_all]
            refine wpAnyH_done (by kernel_rfl) ?_ _
            have DLL := HR12
            go_wp2_with fail
            go_meet
            exact ⟨rfl, DLL⟩
          · have u3 : (ek == 0) = false := beq_eq_false_iff_ne.2 hne
            have u4 : (ek != 0) = true := bne_iff_ne.2 hne
            clear hne
            by_cases her : er = 0
            · have u1 : (er == 0) = true := beq_iff_eq.2 her
              have u2 : (er != 0) = false := by simp [her]
              clear her
              have HDs : Below V.heap.size V V := Below.refl _ _
              have HDd : Below V.heap.size V V.drew := HDs.drew
              refine wp_region_held_drew (S := fun w' => w'.cell? ⟨w.heap.size + 1, 0, none⟩ = some (.int .i64 s) ∧ w'.cell? ⟨w.heap.size + 1, 1, none⟩ = some (.int .i64 t) ∧ w'.cell? ⟨b8, 0, none⟩ = some (.int .i64 r1) ∧ w'.cell? ⟨b8, 1, none⟩ = some (.int .i64 r2) ∧ w'.cell? ⟨AB, 0, none⟩ = some (.int .i64 a1) ∧ w'.cell? ⟨AB, 1, none⟩ = some (.int .i64 a2) ∧ w'.cell? ⟨BB, 0, none⟩ = some (.int .i64 b1) ∧ w'.cell? ⟨BB, 1, none⟩ = some (.int .i64 b2)) (by kernel_rfl) (G7.out _ HDd) (fun hHeld => ?_)
              refine wpAnyH_take (i := 0) (oi := _) (v := ?_) rfl (by kernel_rfl) (by kernel_rfl) (by kernel_rfl) (fun _ _ _ h => h) (Or.inl ⟨by rfl, ?_⟩) (by assumption) ?_
              rotate_left
              · intro w hSw; obtain ⟨_, _, _, _, _, _, _, _⟩ := hSw; go_simp; (try with_reducible rfl)
              try change wpAnyH _ _ _ _ _ _ _ (Act.put _ (some 48) _) _
              try simp only [act_all]
              refine wpAnyH_take (i := 1) (oi := _) (v := ?_) rfl (by kernel_rfl) (by kernel_rfl) (by kernel_rfl) (fun _ _ _ h => h) (Or.inl ⟨by rfl, ?_⟩) (by assumption) ?_
              rotate_left
              · intro w hSw; obtain ⟨_, _, _, _, _, _, _, _⟩ := hSw; go_simp; (try with_reducible rfl)
              try change wpAnyH _ _ _ _ _ _ _ (Act.put _ (some 49) _) _
              try simp only [act_all]
              refine wpAnyH_take (i := 2) (oi := _) (v := ?_) rfl (by kernel_rfl) (by kernel_rfl) (by kernel_rfl) (fun _ _ _ h => h) (Or.inl ⟨by rfl, ?_⟩) (by assumption) ?_
              rotate_left
              · intro w hSw; obtain ⟨_, _, _, _, _, _, _, _⟩ := hSw; go_simp; (try with_reducible rfl)
              try change wpAnyH _ _ _ _ _ _ _ (Act.put _ (some 50) _) _
              try simp only [act_all]
              refine wpAnyH_take (i := 3) (oi := _) (v := ?_) rfl (by kernel_rfl) (by kernel_rfl) (by kernel_rfl) (fun _ _ _ h => h) (Or.inl ⟨by rfl, ?_⟩) (by assumption) ?_
              rotate_left
              · intro w hSw; obtain ⟨_, _, _, _, _, _, _, _⟩ := hSw; go_simp; (try with_reducible rfl)
              try change wpAnyH _ _ _ _ _ _ _ (Act.put _ (some 51) _) _
              try simp only [act_all]
              refine wpAnyH_take (i := 4) (oi := _) (v := ?_) rfl (by kernel_rfl) (by kernel_rfl) (by kernel_rfl) (fun _ _ _ h => h) (Or.inl ⟨by rfl, ?_⟩) (by assumption) ?_
              rotate_left
              · intro w hSw; obtain ⟨_, _, _, _, _, _, _, _⟩ := hSw; go_simp; (try with_reducible rfl)
              try change wpAnyH _ _ _ _ _ _ _ (Act.put _ (some 52) _) _
              try simp only [act_all]
              refine wpAnyH_take (i := 5) (oi := _) (v := ?_) rfl (by kernel_rfl) (by kernel_rfl) (by kernel_rfl) (fun _ _ _ h => h) (Or.inl ⟨by rfl, ?_⟩) (by assumption) ?_
              rotate_left
              · intro w hSw; obtain ⟨_, _, _, _, _, _, _, _⟩ := hSw; go_simp; (try with_reducible rfl)
              try change wpAnyH _ _ _ _ _ _ _ (Act.put _ (some 53) _) _
              try simp only [act_all]
              refine wpAnyH_take (i := 6) (oi := _) (v := ?_) rfl (by kernel_rfl) (by kernel_rfl) (by kernel_rfl) (fun _ _ _ h => h) (Or.inl ⟨by rfl, ?_⟩) (by assumption) ?_
              rotate_left
              · intro w hSw; obtain ⟨_, _, _, _, _, _, _, _⟩ := hSw; go_simp; (try with_reducible rfl)
              try change wpAnyH _ _ _ _ _ _ _ (Act.put _ (some 54) _) _
              try simp only [act_all]
              refine wpAnyH_ready (rs := [7, 9]) (by kernel_rfl) (by simp) ?_
              refine AllReadyH.cons (o := _) rfl (fun K hK => ?_) ?_
              · go_simp
                refine hK.out _ _ (G7.out _ HDd) (fun hHeld => ?_)
                clear hK K
                try simp only [act_all]
                refine wpAnyH_ready (rs := [8, 9]) (by kernel_rfl) (by simp) ?_
                refine AllReadyH.cons (o := _) rfl (fun K hK => ?_) ?_
                · go_simp
                  refine hK.out _ _ (G7.out _ HDd) (fun hHeld => ?_)
                  clear hK K
                  try simp only [act_all]
                  refine wpAnyH_ready (rs := [9]) (by kernel_rfl) (by simp) ?_
                  refine AllReadyH.cons (o := _) rfl (fun K hK => ?_) AllReadyH.nil
                  go_simp
                  refine hK.out _ _ (G7.out _ HDd) (fun hHeld => ?_)
                  clear hK K
                  try simp only [act_all]
                  refine wpAnyH_ready (rs := [10]) (by kernel_rfl) (by simp) ?_
                  refine AllReadyH.cons (o := _) rfl (fun K hK => ?_) AllReadyH.nil
                  go_simp
                  refine hK.out _ _ (G7.out _ HDd) (fun hHeld => ?_)
                  clear hK K
                  try simp only [act_all]
                  refine wpAnyH_ready (rs := [11]) (by kernel_rfl) (by simp) ?_
                  refine AllReadyH.cons (o := _) rfl (fun K hK => ?_) AllReadyH.nil
                  go_simp
                  refine hK.out _ _ (G7.out _ HDd) (fun hHeld => ?_)
                  clear hK K
                  try simp only [act_all]
                  refine wpAnyH_ready (rs := [12]) (by kernel_rfl) (by simp) ?_
                  refine AllReadyH.cons (o := _) rfl (fun K hK => ?_) AllReadyH.nil
                  go_simp
                  refine hK.out _ _ (G7.out _ HDd) (fun hHeld => ?_)
                  clear hK K
                  try simp only [act_all]
                  refine wpAnyH_take (i := 13) (oi := _) (v := ?_) rfl (by kernel_rfl) (by kernel_rfl) (by kernel_rfl) (fun _ _ _ h => h) (Or.inl ⟨by rfl, ?_⟩) (by assumption) ?_
                  rotate_left
                  · intro w hSw; obtain ⟨_, _, _, _, _, _, _, _⟩ := hSw; go_simp; (try with_reducible rfl)
                  try change wpAnyH _ _ _ _ _ _ _ (Act.put _ (some 61) _) _
                  try simp only [act_all]
                  refine wpAnyH_done (by kernel_rfl) ?_ _
                  have DLL := HDd
                  go_wp2_with fail
                  go_meet
                  exact ⟨rfl, DLL⟩
                refine AllReadyH.cons (o := _) rfl (fun K hK => ?_) AllReadyH.nil
                go_simp
                refine hK.out _ _ (G7.out _ HDd) (fun hHeld => ?_)
                clear hK K
                try simp only [act_all]
                refine wpAnyH_ready (rs := [8]) (by kernel_rfl) (by simp) ?_
                refine AllReadyH.cons (o := _) rfl (fun K hK => ?_) AllReadyH.nil
                go_simp
                refine hK.out _ _ (G7.out _ HDd) (fun hHeld => ?_)
                clear hK K
                try simp only [act_all]
                refine wpAnyH_ready (rs := [10]) (by kernel_rfl) (by simp) ?_
                refine AllReadyH.cons (o := _) rfl (fun K hK => ?_) AllReadyH.nil
                go_simp
                refine hK.out _ _ (G7.out _ HDd) (fun hHeld => ?_)
                clear hK K
                try simp only [act_all]
                refine wpAnyH_ready (rs := [11]) (by kernel_rfl) (by simp) ?_
                refine AllReadyH.cons (o := _) rfl (fun K hK => ?_) AllReadyH.nil
                go_simp
                refine hK.out _ _ (G7.out _ HDd) (fun hHeld => ?_)
                clear hK K
                try simp only [act_all]
                refine wpAnyH_ready (rs := [12]) (by kernel_rfl) (by simp) ?_
                refine AllReadyH.cons (o := _) rfl (fun K hK => ?_) AllReadyH.nil
                go_simp
                refine hK.out _ _ (G7.out _ HDd) (fun hHeld => ?_)
                clear hK K
                try simp only [act_all]
                refine wpAnyH_take (i := 13) (oi := _) (v := ?_) rfl (by kernel_rfl) (by kernel_rfl) (by kernel_rfl) (fun _ _ _ h => h) (Or.inl ⟨by rfl, ?_⟩) (by assumption) ?_
                rotate_left
                · intro w hSw; obtain ⟨_, _, _, _, _, _, _, _⟩ := hSw; go_simp; (try with_reducible rfl)
                try change wpAnyH _ _ _ _ _ _ _ (Act.put _ (some 61) _) _
                try simp only [act_all]
                refine wpAnyH_done (by kernel_rfl) ?_ _
                have DLL := HDd
                go_wp2_with fail
                go_meet
                exact ⟨rfl, DLL⟩
              refine AllReadyH.cons (o := _) rfl (fun K hK => ?_) AllReadyH.nil
              go_simp
              refine hK.out _ _ (G7.out _ HDd) (fun hHeld => ?_)
              clear hK K
              try simp only [act_all]
              refine wpAnyH_ready (rs := [7]) (by kernel_rfl) (by simp) ?_
              refine AllReadyH.cons (o := _) rfl (fun K hK => ?_) AllReadyH.nil
              go_simp
              refine hK.out _ _ (G7.out _ HDd) (fun hHeld => ?_)
              clear hK K
              try simp only [act_all]
              refine wpAnyH_ready (rs := [8]) (by kernel_rfl) (by simp) ?_
              refine AllReadyH.cons (o := _) rfl (fun K hK => ?_) AllReadyH.nil
              go_simp
              refine hK.out _ _ (G7.out _ HDd) (fun hHeld => ?_)
              clear hK K
              try simp only [act_all]
              refine wpAnyH_ready (rs := [10]) (by kernel_rfl) (by simp) ?_
              refine AllReadyH.cons (o := _) rfl (fun K hK => ?_) AllReadyH.nil
              go_simp
              refine hK.out _ _ (G7.out _ HDd) (fun hHeld => ?_)
              clear hK K
              try simp only [act_all]
              refine wpAnyH_ready (rs := [11]) (by kernel_rfl) (by simp) ?_
              refine AllReadyH.cons (o := _) rfl (fun K hK => ?_) AllReadyH.nil
              go_simp
              refine hK.out _ _ (G7.out _ HDd) (fun hHeld => ?_)
              clear hK K
              try simp only [act_all]
              refine wpAnyH_ready (rs := [12]) (by kernel_rfl) (by simp) ?_
              refine AllReadyH.cons (o := _) rfl (fun K hK => ?_) AllReadyH.nil
              go_simp
              refine hK.out _ _ (G7.out _ HDd) (fun hHeld => ?_)
              clear hK K
              try simp only [act_all]
              refine wpAnyH_take (i := 13) (oi := _) (v := ?_) rfl (by kernel_rfl) (by kernel_rfl) (by kernel_rfl) (fun _ _ _ h => h) (Or.inl ⟨by rfl, ?_⟩) (by assumption) ?_
              rotate_left
              · intro w hSw; obtain ⟨_, _, _, _, _, _, _, _⟩ := hSw; go_simp; (try with_reducible rfl)
              try change wpAnyH _ _ _ _ _ _ _ (Act.put _ (some 61) _) _
              try simp only [act_all]
              refine wpAnyH_done (by kernel_rfl) ?_ _
              have DLL := HDd
              go_wp2_with fail
              go_meet
              exact ⟨rfl, DLL⟩
            · have u1 : (er == 0) = false := beq_eq_false_iff_ne.2 her
              have u2 : (er != 0) = true := bne_iff_ne.2 her
              clear her
              have HDs : Below V.heap.size V V := Below.refl _ _
              have HDd : Below V.heap.size V V.drew := HDs.drew
              refine wp_region_held_drew (S := fun w' => w'.cell? ⟨w.heap.size + 1, 0, none⟩ = some (.int .i64 s) ∧ w'.cell? ⟨w.heap.size + 1, 1, none⟩ = some (.int .i64 t) ∧ w'.cell? ⟨b8, 0, none⟩ = some (.int .i64 r1) ∧ w'.cell? ⟨b8, 1, none⟩ = some (.int .i64 r2) ∧ w'.cell? ⟨AB, 0, none⟩ = some (.int .i64 a1) ∧ w'.cell? ⟨AB, 1, none⟩ = some (.int .i64 a2) ∧ w'.cell? ⟨BB, 0, none⟩ = some (.int .i64 b1) ∧ w'.cell? ⟨BB, 1, none⟩ = some (.int .i64 b2)) (by kernel_rfl) (G7.out _ HDd) (fun hHeld => ?_)
              refine wpAnyH_take (i := 0) (oi := _) (v := ?_) rfl (by kernel_rfl) (by kernel_rfl) (by kernel_rfl) (fun _ _ _ h => h) (Or.inl ⟨by rfl, ?_⟩) (by assumption) ?_
              rotate_left
              · intro w hSw; obtain ⟨_, _, _, _, _, _, _, _⟩ := hSw; go_simp; (try with_reducible rfl)
              try change wpAnyH _ _ _ _ _ _ _ (Act.put _ (some 48) _) _
              try simp only [act_all]
              refine wpAnyH_take (i := 1) (oi := _) (v := ?_) rfl (by kernel_rfl) (by kernel_rfl) (by kernel_rfl) (fun _ _ _ h => h) (Or.inl ⟨by rfl, ?_⟩) (by assumption) ?_
              rotate_left
              · intro w hSw; obtain ⟨_, _, _, _, _, _, _, _⟩ := hSw; go_simp; (try with_reducible rfl)
              try change wpAnyH _ _ _ _ _ _ _ (Act.put _ (some 49) _) _
              try simp only [act_all]
              refine wpAnyH_take (i := 2) (oi := _) (v := ?_) rfl (by kernel_rfl) (by kernel_rfl) (by kernel_rfl) (fun _ _ _ h => h) (Or.inl ⟨by rfl, ?_⟩) (by assumption) ?_
              rotate_left
              · intro w hSw; obtain ⟨_, _, _, _, _, _, _, _⟩ := hSw; go_simp; (try with_reducible rfl)
              try change wpAnyH _ _ _ _ _ _ _ (Act.put _ (some 50) _) _
              try simp only [act_all]
              refine wpAnyH_ready (rs := [3]) (by kernel_rfl) (by simp) ?_
              refine AllReadyH.cons (o := _) rfl (fun K hK => ?_) AllReadyH.nil
              go_simp
              refine hK.out _ _ (G7.out _ HDd) (fun hHeld => ?_)
              clear hK K
              try simp only [act_all]
              refine wpAnyH_ready (rs := [4]) (by kernel_rfl) (by simp) ?_
              refine AllReadyH.cons (o := _) rfl (fun K hK => ?_) AllReadyH.nil
              go_simp
              refine hK.out _ _ (G7.out _ HDd) (fun hHeld => ?_)
              clear hK K
              try simp only [act_all]
              refine wpAnyH_take (i := 5) (oi := _) (v := ?_) rfl (by kernel_rfl) (by kernel_rfl) (by kernel_rfl) (fun _ _ _ h => h) (Or.inl ⟨by rfl, ?_⟩) (by assumption) ?_
              rotate_left
              · intro w hSw; obtain ⟨_, _, _, _, _, _, _, _⟩ := hSw; go_simp; (try with_reducible rfl)
              try change wpAnyH _ _ _ _ _ _ _ (Act.put _ (some 53) _) _
              try simp only [act_all]
              refine wpAnyH_take (i := 6) (oi := _) (v := ?_) rfl (by kernel_rfl) (by kernel_rfl) (by kernel_rfl) (fun _ _ _ h => h) (Or.inl ⟨by rfl, ?_⟩) (by assumption) ?_
              rotate_left
              · intro w hSw; obtain ⟨_, _, _, _, _, _, _, _⟩ := hSw; go_simp; (try with_reducible rfl)
              try change wpAnyH _ _ _ _ _ _ _ (Act.put _ (some 54) _) _
              try simp only [act_all]
              refine wpAnyH_ready (rs := [7, 9]) (by kernel_rfl) (by simp) ?_
              refine AllReadyH.cons (o := _) rfl (fun K hK => ?_) ?_
              · go_simp
                refine hK.out _ _ (G7.out _ HDd) (fun hHeld => ?_)
                clear hK K
                try simp only [act_all]
                refine wpAnyH_ready (rs := [8, 9]) (by kernel_rfl) (by simp) ?_
                refine AllReadyH.cons (o := _) rfl (fun K hK => ?_) ?_
                · go_simp
                  refine hK.out _ _ (G7.out _ HDd) (fun hHeld => ?_)
                  clear hK K
                  try simp only [act_all]
                  refine wpAnyH_ready (rs := [9]) (by kernel_rfl) (by simp) ?_
                  refine AllReadyH.cons (o := _) rfl (fun K hK => ?_) AllReadyH.nil
                  go_simp
                  refine hK.out _ _ (G7.out _ HDd) (fun hHeld => ?_)
                  clear hK K
                  try simp only [act_all]
                  refine wpAnyH_ready (rs := [10]) (by kernel_rfl) (by simp) ?_
                  refine AllReadyH.cons (o := _) rfl (fun K hK => ?_) AllReadyH.nil
                  go_simp
                  refine hK.out _ _ (G7.out _ HDd) (fun hHeld => ?_)
                  clear hK K
                  try simp only [act_all]
                  refine wpAnyH_ready (rs := [11]) (by kernel_rfl) (by simp) ?_
                  refine AllReadyH.cons (o := _) rfl (fun K hK => ?_) AllReadyH.nil
                  go_simp
                  refine hK.out _ _ (G7.out _ HDd) (fun hHeld => ?_)
                  clear hK K
                  try simp only [act_all]
                  refine wpAnyH_ready (rs := [12]) (by kernel_rfl) (by simp) ?_
                  refine AllReadyH.cons (o := _) rfl (fun K hK => ?_) AllReadyH.nil
                  go_simp
                  refine hK.out _ _ (G7.out _ HDd) (fun hHeld => ?_)
                  clear hK K
                  try simp only [act_all]
                  refine wpAnyH_take (i := 13) (oi := _) (v := ?_) rfl (by kernel_rfl) (by kernel_rfl) (by kernel_rfl) (fun _ _ _ h => h) (Or.inl ⟨by rfl, ?_⟩) (by assumption) ?_
                  rotate_left
                  · intro w hSw; obtain ⟨_, _, _, _, _, _, _, _⟩ := hSw; go_simp; (try with_reducible rfl)
                  try change wpAnyH _ _ _ _ _ _ _ (Act.put _ (some 61) _) _
                  try simp only [act_all]
                  refine wpAnyH_done (by kernel_rfl) ?_ _
                  have DLL := HDd
                  go_wp2_with fail
                  go_meet
                  exact ⟨rfl, DLL⟩
                refine AllReadyH.cons (o := _) rfl (fun K hK => ?_) AllReadyH.nil
                go_simp
                refine hK.out _ _ (G7.out _ HDd) (fun hHeld => ?_)
                clear hK K
                try simp only [act_all]
                refine wpAnyH_ready (rs := [8]) (by kernel_rfl) (by simp) ?_
                refine AllReadyH.cons (o := _) rfl (fun K hK => ?_) AllReadyH.nil
                go_simp
                refine hK.out _ _ (G7.out _ HDd) (fun hHeld => ?_)
                clear hK K
                try simp only [act_all]
                refine wpAnyH_ready (rs := [10]) (by kernel_rfl) (by simp) ?_
                refine AllReadyH.cons (o := _) rfl (fun K hK => ?_) AllReadyH.nil
                go_simp
                refine hK.out _ _ (G7.out _ HDd) (fun hHeld => ?_)
                clear hK K
                try simp only [act_all]
                refine wpAnyH_ready (rs := [11]) (by kernel_rfl) (by simp) ?_
                refine AllReadyH.cons (o := _) rfl (fun K hK => ?_) AllReadyH.nil
                go_simp
                refine hK.out _ _ (G7.out _ HDd) (fun hHeld => ?_)
                clear hK K
                try simp only [act_all]
                refine wpAnyH_ready (rs := [12]) (by kernel_rfl) (by simp) ?_
                refine AllReadyH.cons (o := _) rfl (fun K hK => ?_) AllReadyH.nil
                go_simp
                refine hK.out _ _ (G7.out _ HDd) (fun hHeld => ?_)
                clear hK K
                try simp only [act_all]
                refine wpAnyH_take (i := 13) (oi := _) (v := ?_) rfl (by kernel_rfl) (by kernel_rfl) (by kernel_rfl) (fun _ _ _ h => h) (Or.inl ⟨by rfl, ?_⟩) (by assumption) ?_
                rotate_left
                · intro w hSw; obtain ⟨_, _, _, _, _, _, _, _⟩ := hSw; go_simp; (try with_reducible rfl)
                try change wpAnyH _ _ _ _ _ _ _ (Act.put _ (some 61) _) _
                try simp only [act_all]
                refine wpAnyH_done (by kernel_rfl) ?_ _
                have DLL := HDd
                go_wp2_with fail
                go_meet
                exact ⟨rfl, DLL⟩
              refine AllReadyH.cons (o := _) rfl (fun K hK => ?_) AllReadyH.nil
              go_simp
              refine hK.out _ _ (G7.out _ HDd) (fun hHeld => ?_)
              clear hK K
              try simp only [act_all]
              refine wpAnyH_ready (rs := [7]) (by kernel_rfl) (by simp) ?_
              refine AllReadyH.cons (o := _) rfl (fun K hK => ?_) AllReadyH.nil
              go_simp
              refine hK.out _ _ (G7.out _ HDd) (fun hHeld => ?_)
              clear hK K
              try simp only [act_all]
              refine wpAnyH_ready (rs := [8]) (by kernel_rfl) (by simp) ?_
              refine AllReadyH.cons (o := _) rfl (fun K hK => ?_) AllReadyH.nil
              go_simp
              refine hK.out _ _ (G7.out _ HDd) (fun hHeld => ?_)
              clear hK K
              try simp only [act_all]
              refine wpAnyH_ready (rs := [10]) (by kernel_rfl) (by simp) ?_
              refine AllReadyH.cons (o := _) rfl (fun K hK => ?_) AllReadyH.nil
              go_simp
              refine hK.out _ _ (G7.out _ HDd) (fun hHeld => ?_)
              clear hK K
              try simp only [act_all]
              refine wpAnyH_ready (rs := [11]) (by kernel_rfl) (by simp) ?_
              refine AllReadyH.cons (o := _) rfl (fun K hK => ?_) AllReadyH.nil
              go_simp
              refine hK.out _ _ (G7.out _ HDd) (fun hHeld => ?_)
              clear hK K
              try simp only [act_all]
              refine wpAnyH_ready (rs := [12]) (by kernel_rfl) (by simp) ?_
              refine AllReadyH.cons (o := _) rfl (fun K hK => ?_) AllReadyH.nil
              go_simp
              refine hK.out _ _ (G7.out _ HDd) (fun hHeld => ?_)
              clear hK K
              try simp only [act_all]
              refine wpAnyH_take (i := 13) (oi := _) (v := ?_) rfl (by kernel_rfl) (by kernel_rfl) (by kernel_rfl) (fun _ _ _ h => h) (Or.inl ⟨by rfl, ?_⟩) (by assumption) ?_
              rotate_left
              · intro w hSw; obtain ⟨_, _, _, _, _, _, _, _⟩ := hSw; go_simp; (try with_reducible rfl)
              try change wpAnyH _ _ _ _ _ _ _ (Act.put _ (some 61) _) _
              try simp only [act_all]
              refine wpAnyH_done (by kernel_rfl) ?_ _
              have DLL := HDd
              go_wp2_with fail
              go_meet
              exact ⟨rfl, DLL⟩
        case rest =>
          obtain ⟨rfl, hcD⟩ := hcut
          have DY := HDE.out.trans (hcD.mono HDE.out.size)
          obtain ⟨v0, v1, v2, v3, v4, v5, v6, v7⟩ := G7.out _ hcD
          obtain ⟨z0, z1, z2, z3⟩ := G8.out _ hcD
          have m0 : w.heap.size + 1 < wc.heap.size := by have := hcD.size; omega
          have m1 : b8 < wc.heap.size := by have := hcD.size; omega
          have m2 : AB < wc.heap.size := by have := hcD.size; omega
          have m3 : BB < wc.heap.size := by have := hcD.size; omega
          clear hcD
          obtain ⟨g1, g2, h1, h2, gr, gk, hga, hgb, hgd⟩ := hold_of2 (o := rootO ⟨s, t⟩) (oo := rootO ⟨r1, r2⟩) (hold_root HB2.out) (ne0_rootO _)
          have HGA := Lib.hid hga
          have HGB := Lib.hid hgb
          have HGD := Lib.hid hgd
          clear hga hgb hgd
          go_wp2_with fail
          refine (eRoot_any s t _).mono ?_
          rw [HGA.out]
          rintro e wq301 ⟨he, hb⟩
          obtain rfl : e = .returned (.tuple #[.agg #[.int .i64 g1, .int .i64 g2], .int .i64 gr]) := he
          have hs301 := hb.size
          (try simp at hs301)
          have DS301 : Below w.heap.size w wq301 := Below.trans (by go_grown) (hb.mono (by have := DY.size; first | omega | (simp; done) | (simp; omega)))
          obtain ⟨k1, k2⟩ := bcl hb
          have v2_301 := (k1 (b8) 0 (by first | omega | (simp; done) | (simp; omega))).trans (((Below.refl wc.heap.size wc).cell (p := ⟨b8, 0, none⟩) (by simp only; omega)).trans v2)
          have v3_301 := (k1 (b8) 1 (by first | omega | (simp; done) | (simp; omega))).trans (((Below.refl wc.heap.size wc).cell (p := ⟨b8, 1, none⟩) (by simp only; omega)).trans v3)
          have v4_301 := (k1 (AB) 0 (by first | omega | (simp; done) | (simp; omega))).trans (((Below.refl wc.heap.size wc).cell (p := ⟨AB, 0, none⟩) (by simp only; omega)).trans v4)
          have v5_301 := (k1 (AB) 1 (by first | omega | (simp; done) | (simp; omega))).trans (((Below.refl wc.heap.size wc).cell (p := ⟨AB, 1, none⟩) (by simp only; omega)).trans v5)
          have v6_301 := (k1 (BB) 0 (by first | omega | (simp; done) | (simp; omega))).trans (((Below.refl wc.heap.size wc).cell (p := ⟨BB, 0, none⟩) (by simp only; omega)).trans v6)
          have v7_301 := (k1 (BB) 1 (by first | omega | (simp; done) | (simp; omega))).trans (((Below.refl wc.heap.size wc).cell (p := ⟨BB, 1, none⟩) (by simp only; omega)).trans v7)
          have z0_301 := (k2 (AB) 0 (by first | omega | (simp; done) | (simp; omega))).trans (((Below.refl wc.heap.size wc).frozen (p := ⟨AB, 0, none⟩) (by simp only; omega)).trans z0)
          have z1_301 := (k2 (AB) 1 (by first | omega | (simp; done) | (simp; omega))).trans (((Below.refl wc.heap.size wc).frozen (p := ⟨AB, 1, none⟩) (by simp only; omega)).trans z1)
          have z2_301 := (k2 (BB) 0 (by first | omega | (simp; done) | (simp; omega))).trans (((Below.refl wc.heap.size wc).frozen (p := ⟨BB, 0, none⟩) (by simp only; omega)).trans z2)
          have z3_301 := (k2 (BB) 1 (by first | omega | (simp; done) | (simp; omega))).trans (((Below.refl wc.heap.size wc).frozen (p := ⟨BB, 1, none⟩) (by simp only; omega)).trans z3)
          have l301_0 : w.heap.size + 1 < wq301.heap.size := by omega
          have l301_1 : b8 < wq301.heap.size := by omega
          have l301_2 : AB < wq301.heap.size := by omega
          have l301_3 : BB < wq301.heap.size := by omega
          clear hb hs301 k1 k2 v0 v1 v2 v3 v4 v5 v6 v7 z0 z1 z2 z3 m0 m1 m2 m3 DY
          go_wp2_with fail
          refine (eRoot_any r1 r2 _).mono ?_
          rw [HGB.out]
          rintro e w6 ⟨he, hb⟩
          obtain rfl : e = .returned (.tuple #[.agg #[.int .i64 h1, .int .i64 h2], .int .i64 gk]) := he
          have bx : Below w.heap.size wq301 ((wq301.setCell ⟨AB, 0, none⟩ (.int .i64 g1)).setCell ⟨AB, 1, none⟩ (.int .i64 g2)) := ((Below.refl _ _).setCell (p := ⟨AB, 0, none⟩) q5 (.int .i64 g1)).setCell (p := ⟨AB, 1, none⟩) q5 (.int .i64 g2)
          have DX : Below w.heap.size w ((wq301.setCell ⟨AB, 0, none⟩ (.int .i64 g1)).setCell ⟨AB, 1, none⟩ (.int .i64 g2)) := DS301.trans bx
          have D6 : Below w.heap.size w w6 := DX.trans (hb.mono DX.size)
          obtain ⟨k1', k2'⟩ := bcl hb
          have hq := hb.size
          (try simp at hq)
          have e0 := (k1' AB 0 (by first | omega | (simp; done) | (simp; omega))).trans (by go_cell : _ = some (.int .i64 g1))
          have e1 := (k1' AB 1 (by first | omega | (simp; done) | (simp; omega))).trans (by go_cell : _ = some (.int .i64 g2))
          have f0 := (k1' BB 0 (by first | omega | (simp; done) | (simp; omega))).trans (by go_cell : _ = some (.int .i64 b1))
          have fz0 := (k2' BB 0 (by first | omega | (simp; done) | (simp; omega))).trans (by go_cell : _ = false)
          have f1 := (k1' BB 1 (by first | omega | (simp; done) | (simp; omega))).trans (by go_cell : _ = some (.int .i64 b2))
          have fz1 := (k2' BB 1 (by first | omega | (simp; done) | (simp; omega))).trans (by go_cell : _ = false)
          have n2 : AB < w6.heap.size := by omega
          have n3 : BB < w6.heap.size := by omega
          clear hb hq k1' k2' bx DX DS301 v2_301 v3_301 v4_301 v5_301 v6_301 v7_301 z0_301 z1_301 z2_301 z3_301 l301_0 l301_1 l301_2 l301_3
          go_upto_region 11 with fail
          have D7 : Below w.heap.size w ((w6.setCell ⟨BB, 0, none⟩ (.int .i64 h1)).setCell ⟨BB, 1, none⟩ (.int .i64 h2)) := (D6.setCell (p := ⟨BB, 0, none⟩) q6 (.int .i64 h1)).setCell (p := ⟨BB, 1, none⟩) q6 (.int .i64 h2)
          have ee0 : ((w6.setCell ⟨BB, 0, none⟩ (.int .i64 h1)).setCell ⟨BB, 1, none⟩ (.int .i64 h2)).cell? ⟨AB, 0, none⟩ = some (.int .i64 g1) := by go_cell
          have ee1 : ((w6.setCell ⟨BB, 0, none⟩ (.int .i64 h1)).setCell ⟨BB, 1, none⟩ (.int .i64 h2)).cell? ⟨AB, 1, none⟩ = some (.int .i64 g2) := by go_cell
          have ef0 : ((w6.setCell ⟨BB, 0, none⟩ (.int .i64 h1)).setCell ⟨BB, 1, none⟩ (.int .i64 h2)).cell? ⟨BB, 0, none⟩ = some (.int .i64 h1) := by go_cell
          have ef1 : ((w6.setCell ⟨BB, 0, none⟩ (.int .i64 h1)).setCell ⟨BB, 1, none⟩ (.int .i64 h2)).cell? ⟨BB, 1, none⟩ = some (.int .i64 h2) := by go_cell
          have o2 : AB < ((w6.setCell ⟨BB, 0, none⟩ (.int .i64 h1)).setCell ⟨BB, 1, none⟩ (.int .i64 h2)).heap.size := by simp; omega
          have o3 : BB < ((w6.setCell ⟨BB, 0, none⟩ (.int .i64 h1)).setCell ⟨BB, 1, none⟩ (.int .i64 h2)).heap.size := by simp; omega
          clear D6 e0 e1 f0 f1 fz0 fz1 n2 n3
          generalize ((w6.setCell ⟨BB, 0, none⟩ (.int .i64 h1)).setCell ⟨BB, 1, none⟩ (.int .i64 h2)) = U at *
          have G11 : Hid (∀ w', Below U.heap.size U w' → w'.cell? ⟨AB, 0, none⟩ = some (.int .i64 g1) ∧ w'.cell? ⟨AB, 1, none⟩ = some (.int .i64 g2) ∧ w'.cell? ⟨BB, 0, none⟩ = some (.int .i64 h1) ∧ w'.cell? ⟨BB, 1, none⟩ = some (.int .i64 h2)) := Lib.hid (fun w' hb => ⟨(hb.cell (p := ⟨AB, 0, none⟩) (by simp only; omega)).trans ee0, (hb.cell (p := ⟨AB, 1, none⟩) (by simp only; omega)).trans ee1, (hb.cell (p := ⟨BB, 0, none⟩) (by simp only; omega)).trans ef0, (hb.cell (p := ⟨BB, 1, none⟩) (by simp only; omega)).trans ef1⟩)
          clear ee0 ee1 ef0 ef1
          have HD7 := Lib.hid D7
          clear D7
          rcases HGD.out with ⟨he1, he2, hin⟩ | hne
          · have HIN := Lib.hid hin
            have u1 : (gr == 0) = true := beq_iff_eq.2 he1
            have u2 : (gr != 0) = false := by simp [he1]
            have u3 : (gk == 0) = true := beq_iff_eq.2 he2
            have u4 : (gk != 0) = false := by simp [he2]
            clear he1 he2 hin
            have HDs : Below U.heap.size U U := Below.refl _ _
            have HDd : Below U.heap.size U U.drew := HDs.drew
            refine wp_region_held_drew (S := fun w' => w'.cell? ⟨AB, 0, none⟩ = some (.int .i64 g1) ∧ w'.cell? ⟨AB, 1, none⟩ = some (.int .i64 g2) ∧ w'.cell? ⟨BB, 0, none⟩ = some (.int .i64 h1) ∧ w'.cell? ⟨BB, 1, none⟩ = some (.int .i64 h2)) (by kernel_rfl) (G11.out _ HDd) (fun hHeld => ?_)
            refine wpAnyH_take (i := 0) (oi := _) (v := ?_) rfl (by kernel_rfl) (by kernel_rfl) (by kernel_rfl) (fun _ _ _ h => h) (Or.inl ⟨by rfl, ?_⟩) (by assumption) ?_
            rotate_left
            · intro w hSw; obtain ⟨_, _, _, _⟩ := hSw; go_simp; (try with_reducible rfl)
            try change wpAnyH _ _ _ _ _ _ _ (Act.put _ (some 72) _) _
            try simp only [act_all]
            refine wpAnyH_take (i := 1) (oi := _) (v := ?_) rfl (by kernel_rfl) (by kernel_rfl) (by kernel_rfl) (fun _ _ _ h => h) (Or.inl ⟨by rfl, ?_⟩) (by assumption) ?_
            rotate_left
            · intro w hSw; obtain ⟨_, _, _, _⟩ := hSw; go_simp; (try with_reducible rfl)
            try change wpAnyH _ _ _ _ _ _ _ (Act.put _ (some 73) _) _
            try simp only [act_all]
            refine wpAnyH_take (i := 2) (oi := _) (v := ?_) rfl (by kernel_rfl) (by kernel_rfl) (by kernel_rfl) (fun _ _ _ h => h) (Or.inl ⟨by rfl, ?_⟩) (by assumption) ?_
            rotate_left
            · intro w hSw; obtain ⟨_, _, _, _⟩ := hSw; go_simp; (try with_reducible rfl)
            try change wpAnyH _ _ _ _ _ _ _ (Act.put _ (some 74) _) _
            try simp only [act_all]
            refine wpAnyH_take (i := 3) (oi := _) (v := ?_) rfl (by kernel_rfl) (by kernel_rfl) (by kernel_rfl) (fun _ _ _ h => h) (Or.inl ⟨by rfl, ?_⟩) (by assumption) ?_
            rotate_left
            · intro w hSw; obtain ⟨_, _, _, _⟩ := hSw; go_simp; (try with_reducible rfl)
            try change wpAnyH _ _ _ _ _ _ _ (Act.put _ (some 75) _) _
            try simp only [act_all]
            refine wpAnyH_take (i := 4) (oi := _) (v := ?_) rfl (by kernel_rfl) (by kernel_rfl) (by kernel_rfl) (fun _ _ _ h => h) (Or.inl ⟨by rfl, ?_⟩) (by assumption) ?_
            rotate_left
            · intro w hSw; obtain ⟨_, _, _, _⟩ := hSw; go_simp; (try with_reducible rfl)
            try change wpAnyH _ _ _ _ _ _ _ (Act.put _ (some 76) _) _
            try simp only [act_all]
            refine wpAnyH_take (i := 5) (oi := _) (v := ?_) rfl (by kernel_rfl) (by kernel_rfl) (by kernel_rfl) (fun _ _ _ h => h) (Or.inl ⟨by rfl, ?_⟩) (by assumption) ?_
            rotate_left
            · intro w hSw; obtain ⟨_, _, _, _⟩ := hSw; go_simp; (try with_reducible rfl)
            try change wpAnyH _ _ _ _ _ _ _ (Act.put _ (some 77) _) _
            try simp only [act_all]
            refine wpAnyH_take (i := 6) (oi := _) (v := ?_) rfl (by kernel_rfl) (by kernel_rfl) (by kernel_rfl) (fun _ _ _ h => h) (Or.inl ⟨by rfl, ?_⟩) (by assumption) ?_
            rotate_left
            · intro w hSw; obtain ⟨_, _, _, _⟩ := hSw; go_simp; (try with_reducible rfl)
            try change wpAnyH _ _ _ _ _ _ _ (Act.put _ (some 78) _) _
            try simp only [act_all]
            refine wpAnyH_take (i := 7) (oi := _) (v := ?_) rfl (by kernel_rfl) (by kernel_rfl) (by kernel_rfl) (fun _ _ _ h => h) (Or.inl ⟨by rfl, ?_⟩) (by assumption) ?_
            rotate_left
            · intro w hSw; obtain ⟨_, _, _, _⟩ := hSw; go_simp; (try with_reducible rfl)
            try change wpAnyH _ _ _ _ _ _ _ (Act.put _ (some 79) _) _
            try simp only [act_all]
            refine wpAnyH_take (i := 9) (oi := _) (v := ?_) rfl (by kernel_rfl) (by kernel_rfl) (by kernel_rfl) (fun _ _ _ h => h) (Or.inl ⟨by rfl, ?_⟩) (by assumption) ?_
            rotate_left
            · intro w hSw; obtain ⟨_, _, _, _⟩ := hSw; go_simp; (try with_reducible rfl)
            try change wpAnyH _ _ _ _ _ _ _ (Act.put _ (some 81) _) _
            try simp only [act_all]
            refine wpAnyH_ready (rs := [8]) (by kernel_rfl) (by simp) ?_
            refine AllReadyH.cons (o := _) rfl (fun K hK => ?_) AllReadyH.nil
            go_simp
            refine (wideL2_any g1 g2 _).mono ?_
            rintro e wr13 ⟨he, hb⟩
            obtain rfl : e = .returned (.agg #[.int .i64 g1, .int .i64 g2, .int .i64 0, .int .i64 0]) := he
            have HR13 : Below U.heap.size U wr13 := HDd.trans (hb.mono HDd.size)
            clear hb hHeld
            refine hK.out _ _ (G11.out _ HR13) (fun hHeld => ?_)
            clear hK K
            try simp only [act_all]
            refine wpAnyH_ready (rs := [10]) (by kernel_rfl) (by simp) ?_
            refine AllReadyH.cons (o := _) rfl (fun K hK => ?_) AllReadyH.nil
            go_simp
            refine (wideL2_any h1 h2 _).mono ?_
            rintro e wr14 ⟨he, hb⟩
            obtain rfl : e = .returned (.agg #[.int .i64 h1, .int .i64 h2, .int .i64 0, .int .i64 0]) := he
            have HR14 : Below U.heap.size U wr14 := HR13.trans (hb.mono HR13.size)
            clear hb hHeld
            refine hK.out _ _ (G11.out _ HR14) (fun hHeld => ?_)
            clear hK K
            try simp only [act_all]
            refine wpAnyH_ready (rs := [11]) (by kernel_rfl) (by simp) ?_
            refine AllReadyH.cons (o := _) rfl (fun K hK => ?_) AllReadyH.nil
            go_simp
            refine (inL_any g1 g2 0 0 h1 h2 0 0 _).mono ?_
            rw [HIN.out]
            rintro e wr15 ⟨he, hb⟩
            obtain rfl : e = .returned (.bool true) := he
            have HR15 : Below U.heap.size U wr15 := HR14.trans (hb.mono HR14.size)
            clear hb hHeld
            refine hK.out _ _ (G11.out _ HR15) (fun hHeld => ?_)
            clear hK K
            try simp only [act_all]
            refine wpAnyH_take (i := 12) (oi := _) (v := ?_) rfl (by kernel_rfl) (by kernel_rfl) (by kernel_rfl) (fun _ _ _ h => h) (Or.inl ⟨by rfl, ?_⟩) (by assumption) ?_
            rotate_left
            · intro w hSw; obtain ⟨_, _, _, _⟩ := hSw; go_simp; (try with_reducible rfl)
            try change wpAnyH _ _ _ _ _ _ _ (Act.put _ (some 84) _) _
            try simp only [act_all]
            refine wpAnyH_take (i := 13) (oi := _) (v := ?_) rfl (by kernel_rfl) (by kernel_rfl) (by kernel_rfl) (fun _ _ _ h => h) (Or.inl ⟨by rfl, ?_⟩) (by assumption) ?_
            rotate_left
            · intro w hSw; obtain ⟨_, _, _, _⟩ := hSw; go_simp; (try with_reducible rfl)
            try change wpAnyH _ _ _ _ _ _ _ (Act.put _ (some 85) _) _
            try simp only [act_all]
            refine wpAnyH_ready (rs := [14]) (by kernel_rfl) (by simp) ?_
            refine AllReadyH.cons (o := _) rfl (fun K hK => ?_) AllReadyH.nil
            go_simp
            refine (eawake_any _).mono ?_
            rintro e wr16 ⟨he, hb⟩
            obtain rfl : e = .returned (.bool true) := he
            have HR16 : Below U.heap.size U wr16 := HR15.trans (hb.mono HR15.size)
            clear hb hHeld
            refine hK.out _ _ (G11.out _ HR16) (fun hHeld => ?_)
            clear hK K
            try simp only [act_all]
            refine wpAnyH_take (i := 15) (oi := _) (v := ?_) rfl (by kernel_rfl) (by kernel_rfl) (by kernel_rfl) (fun _ _ _ h => h) (Or.inl ⟨by rfl, ?_⟩) (by assumption) ?_
            rotate_left
            · intro w hSw; obtain ⟨_, _, _, _⟩ := hSw; go_simp; (try with_reducible rfl)
            try change wpAnyH _ _ _ _ _ _ _ (Act.put _ (some 87) _) _
            try simp only [act_all]
            refine wpAnyH_take (i := 16) (oi := _) (v := ?_) rfl (by kernel_rfl) (by kernel_rfl) (by kernel_rfl) (fun _ _ _ h => h) (Or.inl ⟨by rfl, ?_⟩) (by assumption) ?_
            rotate_left
            · intro w hSw; obtain ⟨_, _, _, _⟩ := hSw; go_simp; (try with_reducible rfl)
            try change wpAnyH _ _ _ _ _ _ _ (Act.put _ (some 6) _) _
            try simp only [act_all]
            refine wpAnyH_done (by kernel_rfl) ?_ _
            have DZ := HD7.out.trans (HR16.mono HD7.out.size)
            go_wp2_with fail
            go_returns
            exact ⟨rfl, DZ⟩
          · have u3 : (gk == 0) = false := beq_eq_false_iff_ne.2 hne
            have u4 : (gk != 0) = true := bne_iff_ne.2 hne
            clear hne
            by_cases her : gr = 0
            · have u1 : (gr == 0) = true := beq_iff_eq.2 her
              have u2 : (gr != 0) = false := by simp [her]
              clear her
              have HDs : Below U.heap.size U U := Below.refl _ _
              have HDd : Below U.heap.size U U.drew := HDs.drew
              refine wp_region_held_drew (S := fun w' => w'.cell? ⟨AB, 0, none⟩ = some (.int .i64 g1) ∧ w'.cell? ⟨AB, 1, none⟩ = some (.int .i64 g2) ∧ w'.cell? ⟨BB, 0, none⟩ = some (.int .i64 h1) ∧ w'.cell? ⟨BB, 1, none⟩ = some (.int .i64 h2)) (by kernel_rfl) (G11.out _ HDd) (fun hHeld => ?_)
              refine wpAnyH_take (i := 0) (oi := _) (v := ?_) rfl (by kernel_rfl) (by kernel_rfl) (by kernel_rfl) (fun _ _ _ h => h) (Or.inl ⟨by rfl, ?_⟩) (by assumption) ?_
              rotate_left
              · intro w hSw; obtain ⟨_, _, _, _⟩ := hSw; go_simp; (try with_reducible rfl)
              try change wpAnyH _ _ _ _ _ _ _ (Act.put _ (some 72) _) _
              try simp only [act_all]
              refine wpAnyH_take (i := 1) (oi := _) (v := ?_) rfl (by kernel_rfl) (by kernel_rfl) (by kernel_rfl) (fun _ _ _ h => h) (Or.inl ⟨by rfl, ?_⟩) (by assumption) ?_
              rotate_left
              · intro w hSw; obtain ⟨_, _, _, _⟩ := hSw; go_simp; (try with_reducible rfl)
              try change wpAnyH _ _ _ _ _ _ _ (Act.put _ (some 73) _) _
              try simp only [act_all]
              refine wpAnyH_take (i := 2) (oi := _) (v := ?_) rfl (by kernel_rfl) (by kernel_rfl) (by kernel_rfl) (fun _ _ _ h => h) (Or.inl ⟨by rfl, ?_⟩) (by assumption) ?_
              rotate_left
              · intro w hSw; obtain ⟨_, _, _, _⟩ := hSw; go_simp; (try with_reducible rfl)
              try change wpAnyH _ _ _ _ _ _ _ (Act.put _ (some 74) _) _
              try simp only [act_all]
              refine wpAnyH_take (i := 3) (oi := _) (v := ?_) rfl (by kernel_rfl) (by kernel_rfl) (by kernel_rfl) (fun _ _ _ h => h) (Or.inl ⟨by rfl, ?_⟩) (by assumption) ?_
              rotate_left
              · intro w hSw; obtain ⟨_, _, _, _⟩ := hSw; go_simp; (try with_reducible rfl)
              try change wpAnyH _ _ _ _ _ _ _ (Act.put _ (some 75) _) _
              try simp only [act_all]
              refine wpAnyH_take (i := 4) (oi := _) (v := ?_) rfl (by kernel_rfl) (by kernel_rfl) (by kernel_rfl) (fun _ _ _ h => h) (Or.inl ⟨by rfl, ?_⟩) (by assumption) ?_
              rotate_left
              · intro w hSw; obtain ⟨_, _, _, _⟩ := hSw; go_simp; (try with_reducible rfl)
              try change wpAnyH _ _ _ _ _ _ _ (Act.put _ (some 76) _) _
              try simp only [act_all]
              refine wpAnyH_take (i := 5) (oi := _) (v := ?_) rfl (by kernel_rfl) (by kernel_rfl) (by kernel_rfl) (fun _ _ _ h => h) (Or.inl ⟨by rfl, ?_⟩) (by assumption) ?_
              rotate_left
              · intro w hSw; obtain ⟨_, _, _, _⟩ := hSw; go_simp; (try with_reducible rfl)
              try change wpAnyH _ _ _ _ _ _ _ (Act.put _ (some 77) _) _
              try simp only [act_all]
              refine wpAnyH_take (i := 6) (oi := _) (v := ?_) rfl (by kernel_rfl) (by kernel_rfl) (by kernel_rfl) (fun _ _ _ h => h) (Or.inl ⟨by rfl, ?_⟩) (by assumption) ?_
              rotate_left
              · intro w hSw; obtain ⟨_, _, _, _⟩ := hSw; go_simp; (try with_reducible rfl)
              try change wpAnyH _ _ _ _ _ _ _ (Act.put _ (some 78) _) _
              try simp only [act_all]
              refine wpAnyH_ready (rs := [7, 9]) (by kernel_rfl) (by simp) ?_
              refine AllReadyH.cons (o := _) rfl (fun K hK => ?_) ?_
              · go_simp
                refine hK.out _ _ (G11.out _ HDd) (fun hHeld => ?_)
                clear hK K
                try simp only [act_all]
                refine wpAnyH_ready (rs := [8, 9]) (by kernel_rfl) (by simp) ?_
                refine AllReadyH.cons (o := _) rfl (fun K hK => ?_) ?_
                · go_simp
                  refine hK.out _ _ (G11.out _ HDd) (fun hHeld => ?_)
                  clear hK K
                  try simp only [act_all]
                  refine wpAnyH_ready (rs := [9]) (by kernel_rfl) (by simp) ?_
                  refine AllReadyH.cons (o := _) rfl (fun K hK => ?_) AllReadyH.nil
                  go_simp
                  refine hK.out _ _ (G11.out _ HDd) (fun hHeld => ?_)
                  clear hK K
                  try simp only [act_all]
                  refine wpAnyH_ready (rs := [10]) (by kernel_rfl) (by simp) ?_
                  refine AllReadyH.cons (o := _) rfl (fun K hK => ?_) AllReadyH.nil
                  go_simp
                  refine hK.out _ _ (G11.out _ HDd) (fun hHeld => ?_)
                  clear hK K
                  try simp only [act_all]
                  refine wpAnyH_ready (rs := [11]) (by kernel_rfl) (by simp) ?_
                  refine AllReadyH.cons (o := _) rfl (fun K hK => ?_) AllReadyH.nil
                  go_simp
                  refine hK.out _ _ (G11.out _ HDd) (fun hHeld => ?_)
                  clear hK K
                  try simp only [act_all]
                  refine wpAnyH_take (i := 12) (oi := _) (v := ?_) rfl (by kernel_rfl) (by kernel_rfl) (by kernel_rfl) (fun _ _ _ h => h) (Or.inl ⟨by rfl, ?_⟩) (by assumption) ?_
                  rotate_left
                  · intro w hSw; obtain ⟨_, _, _, _⟩ := hSw; go_simp; (try with_reducible rfl)
                  try change wpAnyH _ _ _ _ _ _ _ (Act.put _ (some 84) _) _
                  try simp only [act_all]
                  refine wpAnyH_take (i := 13) (oi := _) (v := ?_) rfl (by kernel_rfl) (by kernel_rfl) (by kernel_rfl) (fun _ _ _ h => h) (Or.inl ⟨by rfl, ?_⟩) (by assumption) ?_
                  rotate_left
                  · intro w hSw; obtain ⟨_, _, _, _⟩ := hSw; go_simp; (try with_reducible rfl)
                  try change wpAnyH _ _ _ _ _ _ _ (Act.put _ (some 85) _) _
                  try simp only [act_all]
                  refine wpAnyH_ready (rs := [14]) (by kernel_rfl) (by simp) ?_
                  refine AllReadyH.cons (o := _) rfl (fun K hK => ?_) AllReadyH.nil
                  go_simp
                  refine (eawake_any _).mono ?_
                  rintro e wr17 ⟨he, hb⟩
                  obtain rfl : e = .returned (.bool true) := he
                  have HR17 : Below U.heap.size U wr17 := HDd.trans (hb.mono HDd.size)
                  clear hb hHeld
                  refine hK.out _ _ (G11.out _ HR17) (fun hHeld => ?_)
                  clear hK K
                  try simp only [act_all]
                  refine wpAnyH_take (i := 15) (oi := _) (v := ?_) rfl (by kernel_rfl) (by kernel_rfl) (by kernel_rfl) (fun _ _ _ h => h) (Or.inl ⟨by rfl, ?_⟩) (by assumption) ?_
                  rotate_left
                  · intro w hSw; obtain ⟨_, _, _, _⟩ := hSw; go_simp; (try with_reducible rfl)
                  try change wpAnyH _ _ _ _ _ _ _ (Act.put _ (some 87) _) _
                  try simp only [act_all]
                  refine wpAnyH_take (i := 16) (oi := _) (v := ?_) rfl (by kernel_rfl) (by kernel_rfl) (by kernel_rfl) (fun _ _ _ h => h) (Or.inl ⟨by rfl, ?_⟩) (by assumption) ?_
                  rotate_left
                  · intro w hSw; obtain ⟨_, _, _, _⟩ := hSw; go_simp; (try with_reducible rfl)
                  try change wpAnyH _ _ _ _ _ _ _ (Act.put _ (some 6) _) _
                  try simp only [act_all]
                  refine wpAnyH_done (by kernel_rfl) ?_ _
                  have DZ := HD7.out.trans (HR17.mono HD7.out.size)
                  go_wp2_with fail
                  go_returns
                  exact ⟨rfl, DZ⟩
                refine AllReadyH.cons (o := _) rfl (fun K hK => ?_) AllReadyH.nil
                go_simp
                refine hK.out _ _ (G11.out _ HDd) (fun hHeld => ?_)
                clear hK K
                try simp only [act_all]
                refine wpAnyH_ready (rs := [8]) (by kernel_rfl) (by simp) ?_
                refine AllReadyH.cons (o := _) rfl (fun K hK => ?_) AllReadyH.nil
                go_simp
                refine hK.out _ _ (G11.out _ HDd) (fun hHeld => ?_)
                clear hK K
                try simp only [act_all]
                refine wpAnyH_ready (rs := [10]) (by kernel_rfl) (by simp) ?_
                refine AllReadyH.cons (o := _) rfl (fun K hK => ?_) AllReadyH.nil
                go_simp
                refine hK.out _ _ (G11.out _ HDd) (fun hHeld => ?_)
                clear hK K
                try simp only [act_all]
                refine wpAnyH_ready (rs := [11]) (by kernel_rfl) (by simp) ?_
                refine AllReadyH.cons (o := _) rfl (fun K hK => ?_) AllReadyH.nil
                go_simp
                refine hK.out _ _ (G11.out _ HDd) (fun hHeld => ?_)
                clear hK K
                try simp only [act_all]
                refine wpAnyH_take (i := 12) (oi := _) (v := ?_) rfl (by kernel_rfl) (by kernel_rfl) (by kernel_rfl) (fun _ _ _ h => h) (Or.inl ⟨by rfl, ?_⟩) (by assumption) ?_
                rotate_left
                · intro w hSw; obtain ⟨_, _, _, _⟩ := hSw; go_simp; (try with_reducible rfl)
                try change wpAnyH _ _ _ _ _ _ _ (Act.put _ (some 84) _) _
                try simp only [act_all]
                refine wpAnyH_take (i := 13) (oi := _) (v := ?_) rfl (by kernel_rfl) (by kernel_rfl) (by kernel_rfl) (fun _ _ _ h => h) (Or.inl ⟨by rfl, ?_⟩) (by assumption) ?_
                rotate_left
                · intro w hSw; obtain ⟨_, _, _, _⟩ := hSw; go_simp; (try with_reducible rfl)
                try change wpAnyH _ _ _ _ _ _ _ (Act.put _ (some 85) _) _
                try simp only [act_all]
                refine wpAnyH_ready (rs := [14]) (by kernel_rfl) (by simp) ?_
                refine AllReadyH.cons (o := _) rfl (fun K hK => ?_) AllReadyH.nil
                go_simp
                refine (eawake_any _).mono ?_
                rintro e wr18 ⟨he, hb⟩
                obtain rfl : e = .returned (.bool true) := he
                have HR18 : Below U.heap.size U wr18 := HDd.trans (hb.mono HDd.size)
                clear hb hHeld
                refine hK.out _ _ (G11.out _ HR18) (fun hHeld => ?_)
                clear hK K
                try simp only [act_all]
                refine wpAnyH_take (i := 15) (oi := _) (v := ?_) rfl (by kernel_rfl) (by kernel_rfl) (by kernel_rfl) (fun _ _ _ h => h) (Or.inl ⟨by rfl, ?_⟩) (by assumption) ?_
                rotate_left
                · intro w hSw; obtain ⟨_, _, _, _⟩ := hSw; go_simp; (try with_reducible rfl)
                try change wpAnyH _ _ _ _ _ _ _ (Act.put _ (some 87) _) _
                try simp only [act_all]
                refine wpAnyH_take (i := 16) (oi := _) (v := ?_) rfl (by kernel_rfl) (by kernel_rfl) (by kernel_rfl) (fun _ _ _ h => h) (Or.inl ⟨by rfl, ?_⟩) (by assumption) ?_
                rotate_left
                · intro w hSw; obtain ⟨_, _, _, _⟩ := hSw; go_simp; (try with_reducible rfl)
                try change wpAnyH _ _ _ _ _ _ _ (Act.put _ (some 6) _) _
                try simp only [act_all]
                refine wpAnyH_done (by kernel_rfl) ?_ _
                have DZ := HD7.out.trans (HR18.mono HD7.out.size)
                go_wp2_with fail
                go_returns
                exact ⟨rfl, DZ⟩
              refine AllReadyH.cons (o := _) rfl (fun K hK => ?_) AllReadyH.nil
              go_simp
              refine hK.out _ _ (G11.out _ HDd) (fun hHeld => ?_)
              clear hK K
              try simp only [act_all]
              refine wpAnyH_ready (rs := [7]) (by kernel_rfl) (by simp) ?_
              refine AllReadyH.cons (o := _) rfl (fun K hK => ?_) AllReadyH.nil
              go_simp
              refine hK.out _ _ (G11.out _ HDd) (fun hHeld => ?_)
              clear hK K
              try simp only [act_all]
              refine wpAnyH_ready (rs := [8]) (by kernel_rfl) (by simp) ?_
              refine AllReadyH.cons (o := _) rfl (fun K hK => ?_) AllReadyH.nil
              go_simp
              refine hK.out _ _ (G11.out _ HDd) (fun hHeld => ?_)
              clear hK K
              try simp only [act_all]
              refine wpAnyH_ready (rs := [10]) (by kernel_rfl) (by simp) ?_
              refine AllReadyH.cons (o := _) rfl (fun K hK => ?_) AllReadyH.nil
              go_simp
              refine hK.out _ _ (G11.out _ HDd) (fun hHeld => ?_)
              clear hK K
              try simp only [act_all]
              refine wpAnyH_ready (rs := [11]) (by kernel_rfl) (by simp) ?_
              refine AllReadyH.cons (o := _) rfl (fun K hK => ?_) AllReadyH.nil
              go_simp
              refine hK.out _ _ (G11.out _ HDd) (fun hHeld => ?_)
              clear hK K
              try simp only [act_all]
              refine wpAnyH_take (i := 12) (oi := _) (v := ?_) rfl (by kernel_rfl) (by kernel_rfl) (by kernel_rfl) (fun _ _ _ h => h) (Or.inl ⟨by rfl, ?_⟩) (by assumption) ?_
              rotate_left
              · intro w hSw; obtain ⟨_, _, _, _⟩ := hSw; go_simp; (try with_reducible rfl)
              try change wpAnyH _ _ _ _ _ _ _ (Act.put _ (some 84) _) _
              try simp only [act_all]
              refine wpAnyH_take (i := 13) (oi := _) (v := ?_) rfl (by kernel_rfl) (by kernel_rfl) (by kernel_rfl) (fun _ _ _ h => h) (Or.inl ⟨by rfl, ?_⟩) (by assumption) ?_
              rotate_left
              · intro w hSw; obtain ⟨_, _, _, _⟩ := hSw; go_simp; (try with_reducible rfl)
              try change wpAnyH _ _ _ _ _ _ _ (Act.put _ (some 85) _) _
              try simp only [act_all]
              refine wpAnyH_ready (rs := [14]) (by kernel_rfl) (by simp) ?_
              refine AllReadyH.cons (o := _) rfl (fun K hK => ?_) AllReadyH.nil
              go_simp
              refine (eawake_any _).mono ?_
              rintro e wr19 ⟨he, hb⟩
              obtain rfl : e = .returned (.bool true) := he
              have HR19 : Below U.heap.size U wr19 := HDd.trans (hb.mono HDd.size)
              clear hb hHeld
              refine hK.out _ _ (G11.out _ HR19) (fun hHeld => ?_)
              clear hK K
              try simp only [act_all]
              refine wpAnyH_take (i := 15) (oi := _) (v := ?_) rfl (by kernel_rfl) (by kernel_rfl) (by kernel_rfl) (fun _ _ _ h => h) (Or.inl ⟨by rfl, ?_⟩) (by assumption) ?_
              rotate_left
              · intro w hSw; obtain ⟨_, _, _, _⟩ := hSw; go_simp; (try with_reducible rfl)
              try change wpAnyH _ _ _ _ _ _ _ (Act.put _ (some 87) _) _
              try simp only [act_all]
              refine wpAnyH_take (i := 16) (oi := _) (v := ?_) rfl (by kernel_rfl) (by kernel_rfl) (by kernel_rfl) (fun _ _ _ h => h) (Or.inl ⟨by rfl, ?_⟩) (by assumption) ?_
              rotate_left
              · intro w hSw; obtain ⟨_, _, _, _⟩ := hSw; go_simp; (try with_reducible rfl)
              try change wpAnyH _ _ _ _ _ _ _ (Act.put _ (some 6) _) _
              try simp only [act_all]
              refine wpAnyH_done (by kernel_rfl) ?_ _
              have DZ := HD7.out.trans (HR19.mono HD7.out.size)
              go_wp2_with fail
              go_returns
              exact ⟨rfl, DZ⟩
            · have u1 : (gr == 0) = false := beq_eq_false_iff_ne.2 her
              have u2 : (gr != 0) = true := bne_iff_ne.2 her
              clear her
              have HDs : Below U.heap.size U U := Below.refl _ _
              have HDd : Below U.heap.size U U.drew := HDs.drew
              refine wp_region_held_drew (S := fun w' => w'.cell? ⟨AB, 0, none⟩ = some (.int .i64 g1) ∧ w'.cell? ⟨AB, 1, none⟩ = some (.int .i64 g2) ∧ w'.cell? ⟨BB, 0, none⟩ = some (.int .i64 h1) ∧ w'.cell? ⟨BB, 1, none⟩ = some (.int .i64 h2)) (by kernel_rfl) (G11.out _ HDd) (fun hHeld => ?_)
              refine wpAnyH_take (i := 0) (oi := _) (v := ?_) rfl (by kernel_rfl) (by kernel_rfl) (by kernel_rfl) (fun _ _ _ h => h) (Or.inl ⟨by rfl, ?_⟩) (by assumption) ?_
              rotate_left
              · intro w hSw; obtain ⟨_, _, _, _⟩ := hSw; go_simp; (try with_reducible rfl)
              try change wpAnyH _ _ _ _ _ _ _ (Act.put _ (some 72) _) _
              try simp only [act_all]
              refine wpAnyH_take (i := 1) (oi := _) (v := ?_) rfl (by kernel_rfl) (by kernel_rfl) (by kernel_rfl) (fun _ _ _ h => h) (Or.inl ⟨by rfl, ?_⟩) (by assumption) ?_
              rotate_left
              · intro w hSw; obtain ⟨_, _, _, _⟩ := hSw; go_simp; (try with_reducible rfl)
              try change wpAnyH _ _ _ _ _ _ _ (Act.put _ (some 73) _) _
              try simp only [act_all]
              refine wpAnyH_take (i := 2) (oi := _) (v := ?_) rfl (by kernel_rfl) (by kernel_rfl) (by kernel_rfl) (fun _ _ _ h => h) (Or.inl ⟨by rfl, ?_⟩) (by assumption) ?_
              rotate_left
              · intro w hSw; obtain ⟨_, _, _, _⟩ := hSw; go_simp; (try with_reducible rfl)
              try change wpAnyH _ _ _ _ _ _ _ (Act.put _ (some 74) _) _
              try simp only [act_all]
              refine wpAnyH_ready (rs := [3]) (by kernel_rfl) (by simp) ?_
              refine AllReadyH.cons (o := _) rfl (fun K hK => ?_) AllReadyH.nil
              go_simp
              refine hK.out _ _ (G11.out _ HDd) (fun hHeld => ?_)
              clear hK K
              try simp only [act_all]
              refine wpAnyH_ready (rs := [4]) (by kernel_rfl) (by simp) ?_
              refine AllReadyH.cons (o := _) rfl (fun K hK => ?_) AllReadyH.nil
              go_simp
              refine hK.out _ _ (G11.out _ HDd) (fun hHeld => ?_)
              clear hK K
              try simp only [act_all]
              refine wpAnyH_take (i := 5) (oi := _) (v := ?_) rfl (by kernel_rfl) (by kernel_rfl) (by kernel_rfl) (fun _ _ _ h => h) (Or.inl ⟨by rfl, ?_⟩) (by assumption) ?_
              rotate_left
              · intro w hSw; obtain ⟨_, _, _, _⟩ := hSw; go_simp; (try with_reducible rfl)
              try change wpAnyH _ _ _ _ _ _ _ (Act.put _ (some 77) _) _
              try simp only [act_all]
              refine wpAnyH_take (i := 6) (oi := _) (v := ?_) rfl (by kernel_rfl) (by kernel_rfl) (by kernel_rfl) (fun _ _ _ h => h) (Or.inl ⟨by rfl, ?_⟩) (by assumption) ?_
              rotate_left
              · intro w hSw; obtain ⟨_, _, _, _⟩ := hSw; go_simp; (try with_reducible rfl)
              try change wpAnyH _ _ _ _ _ _ _ (Act.put _ (some 78) _) _
              try simp only [act_all]
              refine wpAnyH_ready (rs := [7, 9]) (by kernel_rfl) (by simp) ?_
              refine AllReadyH.cons (o := _) rfl (fun K hK => ?_) ?_
              · go_simp
                refine hK.out _ _ (G11.out _ HDd) (fun hHeld => ?_)
                clear hK K
                try simp only [act_all]
                refine wpAnyH_ready (rs := [8, 9]) (by kernel_rfl) (by simp) ?_
                refine AllReadyH.cons (o := _) rfl (fun K hK => ?_) ?_
                · go_simp
                  refine hK.out _ _ (G11.out _ HDd) (fun hHeld => ?_)
                  clear hK K
                  try simp only [act_all]
                  refine wpAnyH_ready (rs := [9]) (by kernel_rfl) (by simp) ?_
                  refine AllReadyH.cons (o := _) rfl (fun K hK => ?_) AllReadyH.nil
                  go_simp
                  refine hK.out _ _ (G11.out _ HDd) (fun hHeld => ?_)
                  clear hK K
                  try simp only [act_all]
                  refine wpAnyH_ready (rs := [10]) (by kernel_rfl) (by simp) ?_
                  refine AllReadyH.cons (o := _) rfl (fun K hK => ?_) AllReadyH.nil
                  go_simp
                  refine hK.out _ _ (G11.out _ HDd) (fun hHeld => ?_)
                  clear hK K
                  try simp only [act_all]
                  refine wpAnyH_ready (rs := [11]) (by kernel_rfl) (by simp) ?_
                  refine AllReadyH.cons (o := _) rfl (fun K hK => ?_) AllReadyH.nil
                  go_simp
                  refine hK.out _ _ (G11.out _ HDd) (fun hHeld => ?_)
                  clear hK K
                  try simp only [act_all]
                  refine wpAnyH_take (i := 12) (oi := _) (v := ?_) rfl (by kernel_rfl) (by kernel_rfl) (by kernel_rfl) (fun _ _ _ h => h) (Or.inl ⟨by rfl, ?_⟩) (by assumption) ?_
                  rotate_left
                  · intro w hSw; obtain ⟨_, _, _, _⟩ := hSw; go_simp; (try with_reducible rfl)
                  try change wpAnyH _ _ _ _ _ _ _ (Act.put _ (some 84) _) _
                  try simp only [act_all]
                  refine wpAnyH_take (i := 13) (oi := _) (v := ?_) rfl (by kernel_rfl) (by kernel_rfl) (by kernel_rfl) (fun _ _ _ h => h) (Or.inl ⟨by rfl, ?_⟩) (by assumption) ?_
                  rotate_left
                  · intro w hSw; obtain ⟨_, _, _, _⟩ := hSw; go_simp; (try with_reducible rfl)
                  try change wpAnyH _ _ _ _ _ _ _ (Act.put _ (some 85) _) _
                  try simp only [act_all]
                  refine wpAnyH_ready (rs := [14]) (by kernel_rfl) (by simp) ?_
                  refine AllReadyH.cons (o := _) rfl (fun K hK => ?_) AllReadyH.nil
                  go_simp
                  refine (eawake_any _).mono ?_
                  rintro e wr20 ⟨he, hb⟩
                  obtain rfl : e = .returned (.bool true) := he
                  have HR20 : Below U.heap.size U wr20 := HDd.trans (hb.mono HDd.size)
                  clear hb hHeld
                  refine hK.out _ _ (G11.out _ HR20) (fun hHeld => ?_)
                  clear hK K
                  try simp only [act_all]
                  refine wpAnyH_take (i := 15) (oi := _) (v := ?_) rfl (by kernel_rfl) (by kernel_rfl) (by kernel_rfl) (fun _ _ _ h => h) (Or.inl ⟨by rfl, ?_⟩) (by assumption) ?_
                  rotate_left
                  · intro w hSw; obtain ⟨_, _, _, _⟩ := hSw; go_simp; (try with_reducible rfl)
                  try change wpAnyH _ _ _ _ _ _ _ (Act.put _ (some 87) _) _
                  try simp only [act_all]
                  refine wpAnyH_take (i := 16) (oi := _) (v := ?_) rfl (by kernel_rfl) (by kernel_rfl) (by kernel_rfl) (fun _ _ _ h => h) (Or.inl ⟨by rfl, ?_⟩) (by assumption) ?_
                  rotate_left
                  · intro w hSw; obtain ⟨_, _, _, _⟩ := hSw; go_simp; (try with_reducible rfl)
                  try change wpAnyH _ _ _ _ _ _ _ (Act.put _ (some 6) _) _
                  try simp only [act_all]
                  refine wpAnyH_done (by kernel_rfl) ?_ _
                  have DZ := HD7.out.trans (HR20.mono HD7.out.size)
                  go_wp2_with fail
                  go_returns
                  exact ⟨rfl, DZ⟩
                refine AllReadyH.cons (o := _) rfl (fun K hK => ?_) AllReadyH.nil
                go_simp
                refine hK.out _ _ (G11.out _ HDd) (fun hHeld => ?_)
                clear hK K
                try simp only [act_all]
                refine wpAnyH_ready (rs := [8]) (by kernel_rfl) (by simp) ?_
                refine AllReadyH.cons (o := _) rfl (fun K hK => ?_) AllReadyH.nil
                go_simp
                refine hK.out _ _ (G11.out _ HDd) (fun hHeld => ?_)
                clear hK K
                try simp only [act_all]
                refine wpAnyH_ready (rs := [10]) (by kernel_rfl) (by simp) ?_
                refine AllReadyH.cons (o := _) rfl (fun K hK => ?_) AllReadyH.nil
                go_simp
                refine hK.out _ _ (G11.out _ HDd) (fun hHeld => ?_)
                clear hK K
                try simp only [act_all]
                refine wpAnyH_ready (rs := [11]) (by kernel_rfl) (by simp) ?_
                refine AllReadyH.cons (o := _) rfl (fun K hK => ?_) AllReadyH.nil
                go_simp
                refine hK.out _ _ (G11.out _ HDd) (fun hHeld => ?_)
                clear hK K
                try simp only [act_all]
                refine wpAnyH_take (i := 12) (oi := _) (v := ?_) rfl (by kernel_rfl) (by kernel_rfl) (by kernel_rfl) (fun _ _ _ h => h) (Or.inl ⟨by rfl, ?_⟩) (by assumption) ?_
                rotate_left
                · intro w hSw; obtain ⟨_, _, _, _⟩ := hSw; go_simp; (try with_reducible rfl)
                try change wpAnyH _ _ _ _ _ _ _ (Act.put _ (some 84) _) _
                try simp only [act_all]
                refine wpAnyH_take (i := 13) (oi := _) (v := ?_) rfl (by kernel_rfl) (by kernel_rfl) (by kernel_rfl) (fun _ _ _ h => h) (Or.inl ⟨by rfl, ?_⟩) (by assumption) ?_
                rotate_left
                · intro w hSw; obtain ⟨_, _, _, _⟩ := hSw; go_simp; (try with_reducible rfl)
                try change wpAnyH _ _ _ _ _ _ _ (Act.put _ (some 85) _) _
                try simp only [act_all]
                refine wpAnyH_ready (rs := [14]) (by kernel_rfl) (by simp) ?_
                refine AllReadyH.cons (o := _) rfl (fun K hK => ?_) AllReadyH.nil
                go_simp
                refine (eawake_any _).mono ?_
                rintro e wr21 ⟨he, hb⟩
                obtain rfl : e = .returned (.bool true) := he
                have HR21 : Below U.heap.size U wr21 := HDd.trans (hb.mono HDd.size)
                clear hb hHeld
                refine hK.out _ _ (G11.out _ HR21) (fun hHeld => ?_)
                clear hK K
                try simp only [act_all]
                refine wpAnyH_take (i := 15) (oi := _) (v := ?_) rfl (by kernel_rfl) (by kernel_rfl) (by kernel_rfl) (fun _ _ _ h => h) (Or.inl ⟨by rfl, ?_⟩) (by assumption) ?_
                rotate_left
                · intro w hSw; obtain ⟨_, _, _, _⟩ := hSw; go_simp; (try with_reducible rfl)
                try change wpAnyH _ _ _ _ _ _ _ (Act.put _ (some 87) _) _
                try simp only [act_all]
                refine wpAnyH_take (i := 16) (oi := _) (v := ?_) rfl (by kernel_rfl) (by kernel_rfl) (by kernel_rfl) (fun _ _ _ h => h) (Or.inl ⟨by rfl, ?_⟩) (by assumption) ?_
                rotate_left
                · intro w hSw; obtain ⟨_, _, _, _⟩ := hSw; go_simp; (try with_reducible rfl)
                try change wpAnyH _ _ _ _ _ _ _ (Act.put _ (some 6) _) _
                try simp only [act_all]
                refine wpAnyH_done (by kernel_rfl) ?_ _
                have DZ := HD7.out.trans (HR21.mono HD7.out.size)
                go_wp2_with fail
                go_returns
                exact ⟨rfl, DZ⟩
              refine AllReadyH.cons (o := _) rfl (fun K hK => ?_) AllReadyH.nil
              go_simp
              refine hK.out _ _ (G11.out _ HDd) (fun hHeld => ?_)
              clear hK K
              try simp only [act_all]
              refine wpAnyH_ready (rs := [7]) (by kernel_rfl) (by simp) ?_
              refine AllReadyH.cons (o := _) rfl (fun K hK => ?_) AllReadyH.nil
              go_simp
              refine hK.out _ _ (G11.out _ HDd) (fun hHeld => ?_)
              clear hK K
              try simp only [act_all]
              refine wpAnyH_ready (rs := [8]) (by kernel_rfl) (by simp) ?_
              refine AllReadyH.cons (o := _) rfl (fun K hK => ?_) AllReadyH.nil
              go_simp
              refine hK.out _ _ (G11.out _ HDd) (fun hHeld => ?_)
              clear hK K
              try simp only [act_all]
              refine wpAnyH_ready (rs := [10]) (by kernel_rfl) (by simp) ?_
              refine AllReadyH.cons (o := _) rfl (fun K hK => ?_) AllReadyH.nil
              go_simp
              refine hK.out _ _ (G11.out _ HDd) (fun hHeld => ?_)
              clear hK K
              try simp only [act_all]
              refine wpAnyH_ready (rs := [11]) (by kernel_rfl) (by simp) ?_
              refine AllReadyH.cons (o := _) rfl (fun K hK => ?_) AllReadyH.nil
              go_simp
              refine hK.out _ _ (G11.out _ HDd) (fun hHeld => ?_)
              clear hK K
              try simp only [act_all]
              refine wpAnyH_take (i := 12) (oi := _) (v := ?_) rfl (by kernel_rfl) (by kernel_rfl) (by kernel_rfl) (fun _ _ _ h => h) (Or.inl ⟨by rfl, ?_⟩) (by assumption) ?_
              rotate_left
              · intro w hSw; obtain ⟨_, _, _, _⟩ := hSw; go_simp; (try with_reducible rfl)
              try change wpAnyH _ _ _ _ _ _ _ (Act.put _ (some 84) _) _
              try simp only [act_all]
              refine wpAnyH_take (i := 13) (oi := _) (v := ?_) rfl (by kernel_rfl) (by kernel_rfl) (by kernel_rfl) (fun _ _ _ h => h) (Or.inl ⟨by rfl, ?_⟩) (by assumption) ?_
              rotate_left
              · intro w hSw; obtain ⟨_, _, _, _⟩ := hSw; go_simp; (try with_reducible rfl)
              try change wpAnyH _ _ _ _ _ _ _ (Act.put _ (some 85) _) _
              try simp only [act_all]
              refine wpAnyH_ready (rs := [14]) (by kernel_rfl) (by simp) ?_
              refine AllReadyH.cons (o := _) rfl (fun K hK => ?_) AllReadyH.nil
              go_simp
              refine (eawake_any _).mono ?_
              rintro e wr22 ⟨he, hb⟩
              obtain rfl : e = .returned (.bool true) := he
              have HR22 : Below U.heap.size U wr22 := HDd.trans (hb.mono HDd.size)
              clear hb hHeld
              refine hK.out _ _ (G11.out _ HR22) (fun hHeld => ?_)
              clear hK K
              try simp only [act_all]
              refine wpAnyH_take (i := 15) (oi := _) (v := ?_) rfl (by kernel_rfl) (by kernel_rfl) (by kernel_rfl) (fun _ _ _ h => h) (Or.inl ⟨by rfl, ?_⟩) (by assumption) ?_
              rotate_left
              · intro w hSw; obtain ⟨_, _, _, _⟩ := hSw; go_simp; (try with_reducible rfl)
              try change wpAnyH _ _ _ _ _ _ _ (Act.put _ (some 87) _) _
              try simp only [act_all]
              refine wpAnyH_take (i := 16) (oi := _) (v := ?_) rfl (by kernel_rfl) (by kernel_rfl) (by kernel_rfl) (fun _ _ _ h => h) (Or.inl ⟨by rfl, ?_⟩) (by assumption) ?_
              rotate_left
              · intro w hSw; obtain ⟨_, _, _, _⟩ := hSw; go_simp; (try with_reducible rfl)
              try change wpAnyH _ _ _ _ _ _ _ (Act.put _ (some 6) _) _
              try simp only [act_all]
              refine wpAnyH_done (by kernel_rfl) ?_ _
              have DZ := HD7.out.trans (HR22.mono HD7.out.size)
              go_wp2_with fail
              go_returns
              exact ⟨rfl, DZ⟩
end Go.Proofs.Ytilclpldfoifkaa
