import Derived.Test.YtgbnpnenejgnnaaEi
import Derived.Test.YtgbnpnenejgnnaaEj
import Derived.Test.YtgbnpnenejgnnaaEk
import Derived.Test.YtgbnpnenejgnnaaEg
import Derived.Deep.DeepCutAuto
namespace Go.Proofs.Ytgbnpnenejgnnaa
open Go.RowKit Encl

theorem cj_ok {c d : Int} (h : okS ⟨c, d⟩ = true) : okS ⟨-d, -c⟩ = true := by
  rw [okS_iff] at h ⊢
  simp only at h ⊢
  omega

set_option maxRecDepth 100000 in
set_option maxHeartbeats 8000000 in
theorem divRect_any (a b c d s t u v : Int) (w : World) (h1 : okS ⟨a, b⟩ = true) (h2 : okS ⟨c, d⟩ = true) (h3 : okS ⟨s, t⟩ = true) (h4 : okS ⟨u, v⟩ = true) :
    Calls Try.prog 76 #[(.agg #[.int .i64 a, .int .i64 b, .int .i64 c, .int .i64 d]), (.agg #[.int .i64 s, .int .i64 t, .int .i64 u, .int .i64 v])] w fun e w' => IsR e (divR ⟨⟨a, b⟩, ⟨c, d⟩⟩ ⟨⟨s, t⟩, ⟨u, v⟩⟩) ∧ Below w.heap.size w w' := by
  have H1 := Lib.hid h1
  have H2 := Lib.hid h2
  have H3 := Lib.hid h3
  have H4 := Lib.hid h4
  have H5 := Lib.hid (cj_ok h4)
  have H6 : Hid (-4611686018427387904 ≤ u ∧ u ≤ 4611686018427387904 ∧ -4611686018427387904 ≤ v ∧ v ≤ 4611686018427387904) := Lib.hid (by rw [okS_iff] at h4; simp only at h4; omega)
  clear h1 h2 h3 h4
  obtain ⟨SP, hsp⟩ : ∃ SP, (divR ⟨⟨a, b⟩, ⟨c, d⟩⟩ ⟨⟨s, t⟩, ⟨u, v⟩⟩) = SP := ⟨_, rfl⟩
  have HSP := Lib.hid hsp
  rw [hsp]
  clear hsp
  go_enter Try.func76, Try.ntmps76
  go_wp2_with fail
  refine (power_any s t u v _ H3.out H4.out).mono ?_
  rintro e w1 ⟨he, hb⟩
  have D1 : Below w.heap.size w w1 := Below.trans (by go_grown) (hb.mono (by first | omega | (simp; done) | (simp; omega)))
  have s1 : w.heap.size + 1 + 1 < w1.heap.size := by have hs := hb.size; (try simp at hs); omega
  obtain ⟨k1, k2⟩ := bcl hb
  have y00 := (k1 (w.heap.size) 0 (by first | omega | (simp; done) | (simp; omega))).trans (by go_cell : _ = some (.int .i64 a))
  have y01 := (k1 (w.heap.size) 1 (by first | omega | (simp; done) | (simp; omega))).trans (by go_cell : _ = some (.int .i64 b))
  have y02 := (k1 (w.heap.size) 2 (by first | omega | (simp; done) | (simp; omega))).trans (by go_cell : _ = some (.int .i64 c))
  have y03 := (k1 (w.heap.size) 3 (by first | omega | (simp; done) | (simp; omega))).trans (by go_cell : _ = some (.int .i64 d))
  have y10 := (k1 (w.heap.size + 1) 0 (by first | omega | (simp; done) | (simp; omega))).trans (by go_cell : _ = some (.int .i64 s))
  have y11 := (k1 (w.heap.size + 1) 1 (by first | omega | (simp; done) | (simp; omega))).trans (by go_cell : _ = some (.int .i64 t))
  have y12 := (k1 (w.heap.size + 1) 2 (by first | omega | (simp; done) | (simp; omega))).trans (by go_cell : _ = some (.int .i64 u))
  have y13 := (k1 (w.heap.size + 1) 3 (by first | omega | (simp; done) | (simp; omega))).trans (by go_cell : _ = some (.int .i64 v))
  have y20 := (k1 (w.heap.size + 1 + 1) 0 (by first | omega | (simp; done) | (simp; omega))).trans (by go_cell : _ = some (.int .i64 0))
  have f20 := (k2 (w.heap.size + 1 + 1) 0 (by first | omega | (simp; done) | (simp; omega))).trans (by go_cell : _ = false)
  have y21 := (k1 (w.heap.size + 1 + 1) 1 (by first | omega | (simp; done) | (simp; omega))).trans (by go_cell : _ = some (.int .i64 0))
  have f21 := (k2 (w.heap.size + 1 + 1) 1 (by first | omega | (simp; done) | (simp; omega))).trans (by go_cell : _ = false)
  have y22 := (k1 (w.heap.size + 1 + 1) 2 (by first | omega | (simp; done) | (simp; omega))).trans (by go_cell : _ = some (.int .i64 0))
  have f22 := (k2 (w.heap.size + 1 + 1) 2 (by first | omega | (simp; done) | (simp; omega))).trans (by go_cell : _ = false)
  have y23 := (k1 (w.heap.size + 1 + 1) 3 (by first | omega | (simp; done) | (simp; omega))).trans (by go_cell : _ = some (.int .i64 0))
  have f23 := (k2 (w.heap.size + 1 + 1) 3 (by first | omega | (simp; done) | (simp; omega))).trans (by go_cell : _ = false)
  clear hb k1 k2
  obtain ⟨r, hr⟩ : ∃ r, (powR ⟨⟨s, t⟩, ⟨u, v⟩⟩) = r := ⟨_, rfl⟩
  rw [hr] at he
  have HR0 := Lib.hid hr
  clear hr
  rcases r with ⟨p, q⟩ | k
  case' bad =>
    obtain rfl : e = .panicked [{ v := .iface 26 (.int .i64 k), recovered := false }] := he
    go_wp2_with fail
    refine ⟨rfl, ?_, by go_grown⟩
    rw [← HSP.out]; simp only [divR, HR0.out, Out.binds, IsR]; (try rfl)
  obtain rfl : e = .returned (.agg #[.int .i64 p, .int .i64 q]) := he
  have HO := Lib.hid (powR_ok HR0.out)
  by_cases hp : p ≤ 0
  · go_wp2_with fail
    refine ⟨rfl, ?_, by go_grown⟩
    rw [← HSP.out]; simp only [divR, HR0.out, Out.binds, if_pos hp, IsR]; (try rfl)
  · go_upto_region 4 with fail
    have hbw : Below w1.heap.size w1 (w1.alloc (Obj.cells #[.int .i64 p, .int .i64 q] 23)) := (Below.refl _ _).alloc (Nat.le_refl _) _
    have D2 := D1.trans (hbw.mono D1.size)
    have HP : Hid (0 < p) := Lib.hid (by omega)
    have y30 : (w1.alloc (Obj.cells #[.int .i64 p, .int .i64 q] 23)).cell? ⟨w1.heap.size, 0, none⟩ = some (.int .i64 p) := by go_cell
    have y31 : (w1.alloc (Obj.cells #[.int .i64 p, .int .i64 q] 23)).cell? ⟨w1.heap.size, 1, none⟩ = some (.int .i64 q) := by go_cell
    have s2 : w1.heap.size < (w1.alloc (Obj.cells #[.int .i64 p, .int .i64 q] 23)).heap.size := by simp
    obtain ⟨k1, k2⟩ := bcl hbw
    have x00 := (k1 (w.heap.size) 0 (by omega)).trans y00
    have x01 := (k1 (w.heap.size) 1 (by omega)).trans y01
    have x02 := (k1 (w.heap.size) 2 (by omega)).trans y02
    have x03 := (k1 (w.heap.size) 3 (by omega)).trans y03
    have x10 := (k1 (w.heap.size + 1) 0 (by omega)).trans y10
    have x11 := (k1 (w.heap.size + 1) 1 (by omega)).trans y11
    have x12 := (k1 (w.heap.size + 1) 2 (by omega)).trans y12
    have x13 := (k1 (w.heap.size + 1) 3 (by omega)).trans y13
    have x20 := (k1 (w.heap.size + 1 + 1) 0 (by omega)).trans y20
    have g20 := (k2 (w.heap.size + 1 + 1) 0 (by omega)).trans f20
    have x21 := (k1 (w.heap.size + 1 + 1) 1 (by omega)).trans y21
    have g21 := (k2 (w.heap.size + 1 + 1) 1 (by omega)).trans f21
    have x22 := (k1 (w.heap.size + 1 + 1) 2 (by omega)).trans y22
    have g22 := (k2 (w.heap.size + 1 + 1) 2 (by omega)).trans f22
    have x23 := (k1 (w.heap.size + 1 + 1) 3 (by omega)).trans y23
    have g23 := (k2 (w.heap.size + 1 + 1) 3 (by omega)).trans f23
    clear hbw k1 k2 D1 hp y00 y01 y02 y03 y10 y11 y12 y13 y20 y21 y22 y23 f20 f21 f22 f23
    generalize (w1.alloc (Obj.cells #[.int .i64 p, .int .i64 q] 23)) = W at *
    generalize w1.heap.size = PB at *
    have sP : w.heap.size + 1 + 1 < W.heap.size := by omega
    have HD : Below W.heap.size W W := Below.refl _ _
    have HB0 := Lib.hid D2
    have G0 : Hid (∀ w', Below W.heap.size W w' → w'.cell? ⟨w.heap.size, 0, none⟩ = some (.int .i64 a) ∧ w'.cell? ⟨w.heap.size, 1, none⟩ = some (.int .i64 b) ∧ w'.cell? ⟨w.heap.size, 2, none⟩ = some (.int .i64 c) ∧ w'.cell? ⟨w.heap.size, 3, none⟩ = some (.int .i64 d) ∧ w'.cell? ⟨w.heap.size + 1, 0, none⟩ = some (.int .i64 s) ∧ w'.cell? ⟨w.heap.size + 1, 1, none⟩ = some (.int .i64 t) ∧ w'.cell? ⟨w.heap.size + 1, 2, none⟩ = some (.int .i64 u) ∧ w'.cell? ⟨w.heap.size + 1, 3, none⟩ = some (.int .i64 v)) := Lib.hid (fun w' hb => by
      have e0 := fun o' => hb.cell (p := ⟨w.heap.size, o', none⟩) (by simp only; omega)
      have e1 := fun o' => hb.cell (p := ⟨w.heap.size + 1, o', none⟩) (by simp only; omega)
      exact ⟨(e0 _).trans x00, (e0 _).trans x01, (e0 _).trans x02, (e0 _).trans x03, (e1 _).trans x10, (e1 _).trans x11, (e1 _).trans x12, (e1 _).trans x13⟩)
    have G1 : Hid (∀ w', Below W.heap.size W w' → w'.cell? ⟨w.heap.size + 1 + 1, 0, none⟩ = some (.int .i64 0) ∧ w'.cell? ⟨w.heap.size + 1 + 1, 1, none⟩ = some (.int .i64 0) ∧ w'.cell? ⟨w.heap.size + 1 + 1, 2, none⟩ = some (.int .i64 0) ∧ w'.cell? ⟨w.heap.size + 1 + 1, 3, none⟩ = some (.int .i64 0) ∧ w'.frozen? ⟨w.heap.size + 1 + 1, 0, none⟩ = false ∧ w'.frozen? ⟨w.heap.size + 1 + 1, 1, none⟩ = false ∧ w'.frozen? ⟨w.heap.size + 1 + 1, 2, none⟩ = false ∧ w'.frozen? ⟨w.heap.size + 1 + 1, 3, none⟩ = false ∧ w'.cell? ⟨PB, 0, none⟩ = some (.int .i64 p) ∧ w'.cell? ⟨PB, 1, none⟩ = some (.int .i64 q)) := Lib.hid (fun w' hb => by
      have e0 := fun o' => hb.cell (p := ⟨w.heap.size + 1 + 1, o', none⟩) (by simp only; omega)
      have e1 := fun o' => hb.frozen (p := ⟨w.heap.size + 1 + 1, o', none⟩) (by simp only; omega)
      have e2 := fun o' => hb.cell (p := ⟨PB, o', none⟩) (by simp only; omega)
      exact ⟨(e0 _).trans x20, (e0 _).trans x21, (e0 _).trans x22, (e0 _).trans x23, (e1 _).trans g20, (e1 _).trans g21, (e1 _).trans g22, (e1 _).trans g23, (e2 _).trans y30, (e2 _).trans y31⟩)
    clear D2 x00 x01 x02 x03 x10 x11 x12 x13 x20 x21 x22 x23 g20 g21 g22 g23 y30 y31
    have HD1 : Below W.heap.size W W.drew := HD.drew
    refine wp_region_held_drew (S := fun w' => w'.cell? ⟨w.heap.size, 0, none⟩ = some (.int .i64 a) ∧ w'.cell? ⟨w.heap.size, 1, none⟩ = some (.int .i64 b) ∧ w'.cell? ⟨w.heap.size, 2, none⟩ = some (.int .i64 c) ∧ w'.cell? ⟨w.heap.size, 3, none⟩ = some (.int .i64 d) ∧ w'.cell? ⟨w.heap.size + 1, 0, none⟩ = some (.int .i64 s) ∧ w'.cell? ⟨w.heap.size + 1, 1, none⟩ = some (.int .i64 t) ∧ w'.cell? ⟨w.heap.size + 1, 2, none⟩ = some (.int .i64 u) ∧ w'.cell? ⟨w.heap.size + 1, 3, none⟩ = some (.int .i64 v)) (by kernel_rfl) (G0.out _ HD1) (fun hHeld => ?_)
    refine wpAnyH_take (i := 0) (oi := _) (v := ?_) rfl (by kernel_rfl) (by kernel_rfl) (by kernel_rfl) (fun _ _ _ h => h) (Or.inl ⟨by rfl, ?_⟩) (by assumption) ?_
    rotate_left
    · intro w hSw; obtain ⟨_, _, _, _, _, _, _, _⟩ := hSw; go_simp; (try with_reducible rfl)
    try change wpAnyH _ _ _ _ _ _ _ (Act.put _ (some 13) _) _
    try simp only [act_all]
    refine wpAnyH_take (i := 1) (oi := _) (v := ?_) rfl (by kernel_rfl) (by kernel_rfl) (by kernel_rfl) (fun _ _ _ h => h) (Or.inl ⟨by rfl, ?_⟩) (by assumption) ?_
    rotate_left
    · intro w hSw; obtain ⟨_, _, _, _, _, _, _, _⟩ := hSw; go_simp; (try with_reducible rfl)
    try change wpAnyH _ _ _ _ _ _ _ (Act.put _ (some 14) _) _
    try simp only [act_all]
    refine wpAnyH_ready (rs := [2, 4]) (by kernel_rfl) (by simp) ?_
    refine AllReadyH.cons (o := _) rfl (fun K hK => ?_) ?_
    · go_simp
      refine (conjugate_any s t u v _ ⟨H6.out.1, H6.out.2.1⟩ ⟨H6.out.2.2.1, H6.out.2.2.2⟩).mono ?_
      rintro e w2 ⟨he, hb⟩
      have HD2 : Below W.heap.size W w2 := Below.trans HD1 (hb.mono HD1.size)
      have hz2 := HD2.size
      have DA2 := HB0.out.trans (HD2.mono (show w.heap.size ≤ W.heap.size by omega))
      clear hb hHeld
      obtain rfl : e = .returned (.agg #[.int .i64 s, .int .i64 t, .int .i64 (-v), .int .i64 (-u)]) := he
      refine hK.out _ _ (G0.out _ HD2) (fun hHeld => ?_)
      clear hK K
      try simp only [act_all]
      refine wpAnyH_ready (rs := [3, 4]) (by kernel_rfl) (by simp) ?_
      refine AllReadyH.cons (o := _) rfl (fun K hK => ?_) ?_
      · go_simp
        refine (mulRect_any a b c d s t (-v) (-u) _ H1.out H2.out H3.out H5.out).mono ?_
        rintro e w3 ⟨he, hb⟩
        have HD3 : Below W.heap.size W w3 := Below.trans HD2 (hb.mono HD2.size)
        have hz3 := HD3.size
        have DA3 := HB0.out.trans (HD3.mono (show w.heap.size ≤ W.heap.size by omega))
        clear hb hHeld
        obtain ⟨r, hr⟩ : ∃ r, (mulR ⟨⟨a, b⟩, ⟨c, d⟩⟩ ⟨⟨s, t⟩, ⟨-v, -u⟩⟩) = r := ⟨_, rfl⟩
        rw [hr] at he
        have HR2 := Lib.hid hr
        clear hr
        rcases r with ⟨⟨z1, z2⟩, ⟨z3, z4⟩⟩ | k
        case' bad =>
          obtain rfl : e = .panicked [{ v := .iface 26 (.int .i64 k), recovered := false }] := he
          refine ⟨rfl, ?_, by go_grown⟩
          rw [← HSP.out]; simp only [divR, cjR, negS, HR0.out, if_neg (Int.not_le.mpr HP.out), HR2.out, Out.binds, IsR]; (try rfl)
        obtain rfl : e = .returned (.agg #[.int .i64 z1, .int .i64 z2, .int .i64 z3, .int .i64 z4]) := he
        refine hK.out _ _ (G0.out _ HD3) (fun hHeld => ?_)
        clear hK K
        try simp only [act_all]
        refine wpAnyH_ready (rs := [4]) (by kernel_rfl) (by simp) ?_
        refine AllReadyH.cons (o := _) rfl (fun K hK => ?_) AllReadyH.nil
        have HD4 : Below W.heap.size W (w3.alloc (Obj.cells #[.int .i64 0, .int .i64 0, .int .i64 0, .int .i64 0] 25)) := bal HD3 _
        go_simp
        refine hK.out _ _ (G0.out _ HD4) (fun hHeld => ?_)
        clear hK K
        try simp only [act_all]
        refine wpAnyH_ready (rs := [5]) (by kernel_rfl) (by simp) ?_
        refine AllReadyH.cons (o := _) rfl (fun K hK => ?_) AllReadyH.nil
        obtain ⟨_, _, _, _, _, _, _, _⟩ := G0.out _ HD3
        obtain ⟨_, _, _, _, _, _, _, _, _, _⟩ := G1.out _ HD3
        have nb11 : w.heap.size < w3.heap.size := by omega
        have nx11 : ¬ w3.heap.size = w.heap.size := by omega
        have nb15 : w.heap.size + 1 < w3.heap.size := by omega
        have nx15 : ¬ w3.heap.size = w.heap.size + 1 := by omega
        go_simp
        refine hK.out _ _ (by refine ⟨?_, ?_, ?_, ?_, ?_, ?_, ?_, ?_⟩ <;> go_cell) (fun hHeld => ?_)
        clear hK K
        try simp only [act_all]
        refine wpAnyH_done (by kernel_rfl) ?_ _
        go_upto_region 5 with fail
        have nq1 : PB < w3.heap.size := by omega
        have nq2 : w.heap.size + 1 + 1 < w3.heap.size := by omega
        have DE : Below w.heap.size w (w3.alloc (Obj.cells #[.int .i64 z1, .int .i64 z2, .int .i64 z3, .int .i64 z4] 25)) := DA3.alloc (by omega) _
        have c0 : (w3.alloc (Obj.cells #[.int .i64 z1, .int .i64 z2, .int .i64 z3, .int .i64 z4] 25)).cell? ⟨w3.heap.size, 0, none⟩ = some (.int .i64 z1) := by go_cell
        have c1 : (w3.alloc (Obj.cells #[.int .i64 z1, .int .i64 z2, .int .i64 z3, .int .i64 z4] 25)).cell? ⟨w3.heap.size, 1, none⟩ = some (.int .i64 z2) := by go_cell
        have c2 : (w3.alloc (Obj.cells #[.int .i64 z1, .int .i64 z2, .int .i64 z3, .int .i64 z4] 25)).cell? ⟨w3.heap.size, 2, none⟩ = some (.int .i64 z3) := by go_cell
        have c3 : (w3.alloc (Obj.cells #[.int .i64 z1, .int .i64 z2, .int .i64 z3, .int .i64 z4] 25)).cell? ⟨w3.heap.size, 3, none⟩ = some (.int .i64 z4) := by go_cell
        have c4 : (w3.alloc (Obj.cells #[.int .i64 z1, .int .i64 z2, .int .i64 z3, .int .i64 z4] 25)).cell? ⟨PB, 0, none⟩ = some (.int .i64 p) := by go_cell
        have c5 : (w3.alloc (Obj.cells #[.int .i64 z1, .int .i64 z2, .int .i64 z3, .int .i64 z4] 25)).cell? ⟨PB, 1, none⟩ = some (.int .i64 q) := by go_cell
        have d0 : (w3.alloc (Obj.cells #[.int .i64 z1, .int .i64 z2, .int .i64 z3, .int .i64 z4] 25)).cell? ⟨w.heap.size + 1 + 1, 0, none⟩ = some (.int .i64 0) := by go_cell
        have d1 : (w3.alloc (Obj.cells #[.int .i64 z1, .int .i64 z2, .int .i64 z3, .int .i64 z4] 25)).cell? ⟨w.heap.size + 1 + 1, 1, none⟩ = some (.int .i64 0) := by go_cell
        have d2 : (w3.alloc (Obj.cells #[.int .i64 z1, .int .i64 z2, .int .i64 z3, .int .i64 z4] 25)).cell? ⟨w.heap.size + 1 + 1, 2, none⟩ = some (.int .i64 0) := by go_cell
        have d3 : (w3.alloc (Obj.cells #[.int .i64 z1, .int .i64 z2, .int .i64 z3, .int .i64 z4] 25)).cell? ⟨w.heap.size + 1 + 1, 3, none⟩ = some (.int .i64 0) := by go_cell
        have d4 : (w3.alloc (Obj.cells #[.int .i64 z1, .int .i64 z2, .int .i64 z3, .int .i64 z4] 25)).frozen? ⟨w.heap.size + 1 + 1, 0, none⟩ = false := by go_cell
        have d5 : (w3.alloc (Obj.cells #[.int .i64 z1, .int .i64 z2, .int .i64 z3, .int .i64 z4] 25)).frozen? ⟨w.heap.size + 1 + 1, 1, none⟩ = false := by go_cell
        have d6 : (w3.alloc (Obj.cells #[.int .i64 z1, .int .i64 z2, .int .i64 z3, .int .i64 z4] 25)).frozen? ⟨w.heap.size + 1 + 1, 2, none⟩ = false := by go_cell
        have d7 : (w3.alloc (Obj.cells #[.int .i64 z1, .int .i64 z2, .int .i64 z3, .int .i64 z4] 25)).frozen? ⟨w.heap.size + 1 + 1, 3, none⟩ = false := by go_cell
        have sE : w.heap.size + 1 + 1 < (w3.alloc (Obj.cells #[.int .i64 z1, .int .i64 z2, .int .i64 z3, .int .i64 z4] 25)).heap.size := by first | (simp; done) | (simp; omega)
        have sX : w3.heap.size < (w3.alloc (Obj.cells #[.int .i64 z1, .int .i64 z2, .int .i64 z3, .int .i64 z4] 25)).heap.size := by first | (simp; done) | (simp; omega)
        have sQ : PB < (w3.alloc (Obj.cells #[.int .i64 z1, .int .i64 z2, .int .i64 z3, .int .i64 z4] 25)).heap.size := by first | (simp; done) | (simp; omega)
        clear hHeld
        generalize (w3.alloc (Obj.cells #[.int .i64 z1, .int .i64 z2, .int .i64 z3, .int .i64 z4] 25)) = V at *
        generalize w3.heap.size = XB at *
        have HZ := Lib.hid ((okR_iff _).1 (mulR_ok HR2.out))
        have HD : Below V.heap.size V V := Below.refl _ _
        have K0 := Lib.hid DE
        have J0 : Hid (∀ w', Below V.heap.size V w' → w'.cell? ⟨XB, 0, none⟩ = some (.int .i64 z1) ∧ w'.cell? ⟨XB, 1, none⟩ = some (.int .i64 z2) ∧ w'.cell? ⟨XB, 2, none⟩ = some (.int .i64 z3) ∧ w'.cell? ⟨XB, 3, none⟩ = some (.int .i64 z4) ∧ w'.cell? ⟨PB, 0, none⟩ = some (.int .i64 p) ∧ w'.cell? ⟨PB, 1, none⟩ = some (.int .i64 q)) := Lib.hid (fun w' hb => by
          have e0 := fun o' => hb.cell (p := ⟨XB, o', none⟩) (by simp only; omega)
          have e1 := fun o' => hb.cell (p := ⟨PB, o', none⟩) (by simp only; omega)
          exact ⟨(e0 _).trans c0, (e0 _).trans c1, (e0 _).trans c2, (e0 _).trans c3, (e1 _).trans c4, (e1 _).trans c5⟩)
        have J1 : Hid (∀ w', Below V.heap.size V w' → w'.cell? ⟨w.heap.size + 1 + 1, 0, none⟩ = some (.int .i64 0) ∧ w'.cell? ⟨w.heap.size + 1 + 1, 1, none⟩ = some (.int .i64 0) ∧ w'.cell? ⟨w.heap.size + 1 + 1, 2, none⟩ = some (.int .i64 0) ∧ w'.cell? ⟨w.heap.size + 1 + 1, 3, none⟩ = some (.int .i64 0) ∧ w'.frozen? ⟨w.heap.size + 1 + 1, 0, none⟩ = false ∧ w'.frozen? ⟨w.heap.size + 1 + 1, 1, none⟩ = false ∧ w'.frozen? ⟨w.heap.size + 1 + 1, 2, none⟩ = false ∧ w'.frozen? ⟨w.heap.size + 1 + 1, 3, none⟩ = false) := Lib.hid (fun w' hb => by
          have e0 := fun o' => hb.cell (p := ⟨w.heap.size + 1 + 1, o', none⟩) (by simp only; omega)
          have e1 := fun o' => hb.frozen (p := ⟨w.heap.size + 1 + 1, o', none⟩) (by simp only; omega)
          exact ⟨(e0 _).trans d0, (e0 _).trans d1, (e0 _).trans d2, (e0 _).trans d3, (e1 _).trans d4, (e1 _).trans d5, (e1 _).trans d6, (e1 _).trans d7⟩)
        clear DE c0 c1 c2 c3 c4 c5 d0 d1 d2 d3 d4 d5 d6 d7
        have HD21 : Below V.heap.size V V.drew := HD.drew
        refine wp_region_held_drew (S := fun w' => w'.cell? ⟨XB, 0, none⟩ = some (.int .i64 z1) ∧ w'.cell? ⟨XB, 1, none⟩ = some (.int .i64 z2) ∧ w'.cell? ⟨XB, 2, none⟩ = some (.int .i64 z3) ∧ w'.cell? ⟨XB, 3, none⟩ = some (.int .i64 z4) ∧ w'.cell? ⟨PB, 0, none⟩ = some (.int .i64 p) ∧ w'.cell? ⟨PB, 1, none⟩ = some (.int .i64 q)) (by kernel_rfl) (J0.out _ HD21) (fun hHeld => ?_)
        refine wpAnyH_take (i := 0) (oi := _) (v := ?_) rfl (by kernel_rfl) (by kernel_rfl) (by kernel_rfl) (fun _ _ _ h => h) (Or.inl ⟨by rfl, ?_⟩) (by assumption) ?_
        rotate_left
        · intro w hSw; obtain ⟨_, _, _, _, _, _⟩ := hSw; go_simp; (try with_reducible rfl)
        try change wpAnyH _ _ _ _ _ _ _ (Act.put _ (some 17) _) _
        try simp only [act_all]
        refine wpAnyH_take (i := 1) (oi := _) (v := ?_) rfl (by kernel_rfl) (by kernel_rfl) (by kernel_rfl) (fun _ _ _ h => h) (Or.inl ⟨by rfl, ?_⟩) (by assumption) ?_
        rotate_left
        · intro w hSw; obtain ⟨_, _, _, _, _, _⟩ := hSw; go_simp; (try with_reducible rfl)
        try change wpAnyH _ _ _ _ _ _ _ (Act.put _ (some 18) _) _
        try simp only [act_all]
        refine wpAnyH_take (i := 2) (oi := _) (v := ?_) rfl (by kernel_rfl) (by kernel_rfl) (by kernel_rfl) (fun _ _ _ h => h) (Or.inl ⟨by rfl, ?_⟩) (by assumption) ?_
        rotate_left
        · intro w hSw; obtain ⟨_, _, _, _, _, _⟩ := hSw; go_simp; (try with_reducible rfl)
        try change wpAnyH _ _ _ _ _ _ _ (Act.put _ (some 19) _) _
        try simp only [act_all]
        refine wpAnyH_take (i := 4) (oi := _) (v := ?_) rfl (by kernel_rfl) (by kernel_rfl) (by kernel_rfl) (fun _ _ _ h => h) (Or.inl ⟨by rfl, ?_⟩) (by assumption) ?_
        rotate_left
        · intro w hSw; obtain ⟨_, _, _, _, _, _⟩ := hSw; go_simp; (try with_reducible rfl)
        try change wpAnyH _ _ _ _ _ _ _ (Act.put _ (some 21) _) _
        try simp only [act_all]
        refine wpAnyH_take (i := 5) (oi := _) (v := ?_) rfl (by kernel_rfl) (by kernel_rfl) (by kernel_rfl) (fun _ _ _ h => h) (Or.inl ⟨by rfl, ?_⟩) (by assumption) ?_
        rotate_left
        · intro w hSw; obtain ⟨_, _, _, _, _, _⟩ := hSw; go_simp; (try with_reducible rfl)
        try change wpAnyH _ _ _ _ _ _ _ (Act.put _ (some 22) _) _
        try simp only [act_all]
        refine wpAnyH_take (i := 6) (oi := _) (v := ?_) rfl (by kernel_rfl) (by kernel_rfl) (by kernel_rfl) (fun _ _ _ h => h) (Or.inl ⟨by rfl, ?_⟩) (by assumption) ?_
        rotate_left
        · intro w hSw; obtain ⟨_, _, _, _, _, _⟩ := hSw; go_simp; (try with_reducible rfl)
        try change wpAnyH _ _ _ _ _ _ _ (Act.put _ (some 23) _) _
        try simp only [act_all]
        refine wpAnyH_ready (rs := [3]) (by kernel_rfl) (by simp) ?_
        refine AllReadyH.cons (o := _) rfl (fun K hK => ?_) AllReadyH.nil
        go_simp
        refine (divSpans_any z1 z2 p q _ HZ.out.1 HO.out HP.out).mono ?_
        rintro e w22 ⟨he, hb⟩
        have HD22 : Below V.heap.size V w22 := Below.trans HD21 (hb.mono HD21.size)
        have hz22 := HD22.size
        have DA22 := K0.out.trans (HD22.mono (show w.heap.size ≤ V.heap.size by omega))
        clear hb hHeld
        obtain ⟨r, hr⟩ : ∃ r, (divS ⟨z1, z2⟩ ⟨p, q⟩) = r := ⟨_, rfl⟩
        rw [hr] at he
        have HR3 := Lib.hid hr
        clear hr
        rcases r with ⟨p1, q1⟩ | k
        case' bad =>
          obtain rfl : e = .panicked [{ v := .iface 26 (.int .i64 k), recovered := false }] := he
          refine ⟨rfl, ?_, by go_grown⟩
          rw [← HSP.out]; simp only [divR, cjR, negS, HR0.out, if_neg (Int.not_le.mpr HP.out), HR2.out, HR3.out, Out.binds, IsR]; (try rfl)
        obtain rfl : e = .returned (.agg #[.int .i64 p1, .int .i64 q1]) := he
        refine hK.out _ _ (J0.out _ HD22) (fun hHeld => ?_)
        clear hK K
        try simp only [act_all]
        refine wpAnyH_ready (rs := [7]) (by kernel_rfl) (by simp) ?_
        refine AllReadyH.cons (o := _) rfl (fun K hK => ?_) AllReadyH.nil
        go_simp
        refine (divSpans_any z3 z4 p q _ HZ.out.2 HO.out HP.out).mono ?_
        rintro e w23 ⟨he, hb⟩
        have HD23 : Below V.heap.size V w23 := Below.trans HD22 (hb.mono HD22.size)
        have hz23 := HD23.size
        have DA23 := K0.out.trans (HD23.mono (show w.heap.size ≤ V.heap.size by omega))
        clear hb hHeld
        obtain ⟨r, hr⟩ : ∃ r, (divS ⟨z3, z4⟩ ⟨p, q⟩) = r := ⟨_, rfl⟩
        rw [hr] at he
        have HR4 := Lib.hid hr
        clear hr
        rcases r with ⟨p2, q2⟩ | k
        case' bad =>
          obtain rfl : e = .panicked [{ v := .iface 26 (.int .i64 k), recovered := false }] := he
          refine ⟨rfl, ?_, by go_grown⟩
          rw [← HSP.out]; simp only [divR, cjR, negS, HR0.out, if_neg (Int.not_le.mpr HP.out), HR2.out, HR3.out, HR4.out, Out.binds, IsR]; (try rfl)
        obtain rfl : e = .returned (.agg #[.int .i64 p2, .int .i64 q2]) := he
        refine hK.out _ _ (J0.out _ HD23) (fun hHeld => ?_)
        clear hK K
        try simp only [act_all]
        refine wpAnyH_take (i := 8) (oi := _) (v := ?_) rfl (by kernel_rfl) (by kernel_rfl) (by kernel_rfl) (fun _ _ _ h => h) (Or.inl ⟨by rfl, ?_⟩) (by assumption) ?_
        rotate_left
        · intro w hSw; obtain ⟨_, _, _, _, _, _⟩ := hSw; go_simp; (try with_reducible rfl)
        try change wpAnyH _ _ _ _ _ _ _ (Act.put _ (some 25) _) _
        try simp only [act_all]
        refine wpAnyH_ready (rs := [9]) (by kernel_rfl) (by simp) ?_
        refine AllReadyH.cons (o := _) rfl (fun K hK => ?_) AllReadyH.nil
        obtain ⟨_, _, _, _, _, _⟩ := J0.out _ HD23
        obtain ⟨_, _, _, _, _, _, _, _⟩ := J1.out _ HD23
        go_simp
        refine hK.out _ _ (by refine ⟨?_, ?_, ?_, ?_, ?_, ?_⟩ <;> go_cell) (fun hHeld => ?_)
        clear hK K
        try simp only [act_all]
        refine wpAnyH_done (by kernel_rfl) ?_ _
        go_wp2_with fail
        refine bodyPost_ret (v := .agg #[.int .i64 p1, .int .i64 q1, .int .i64 p2, .int .i64 q2]) (by simp [results, Try.results76, go_sem, *]) rfl ⟨?_, by go_grown⟩
        rw [← HSP.out]; simp only [divR, cjR, negS, HR0.out, if_neg (Int.not_le.mpr HP.out), HR2.out, HR3.out, HR4.out, Out.binds, IsR]; (try rfl)
      refine AllReadyH.cons (o := _) rfl (fun K hK => ?_) AllReadyH.nil
      have HD5 : Below W.heap.size W (w2.alloc (Obj.cells #[.int .i64 0, .int .i64 0, .int .i64 0, .int .i64 0] 25)) := bal HD2 _
      go_simp
      refine hK.out _ _ (G0.out _ HD5) (fun hHeld => ?_)
      clear hK K
      try simp only [act_all]
      refine wpAnyH_ready (rs := [3]) (by kernel_rfl) (by simp) ?_
      refine AllReadyH.cons (o := _) rfl (fun K hK => ?_) AllReadyH.nil
      go_simp
      refine (mulRect_any a b c d s t (-v) (-u) _ H1.out H2.out H3.out H5.out).mono ?_
      rintro e w6 ⟨he, hb⟩
      have HD6 : Below W.heap.size W w6 := Below.trans HD5 (hb.mono HD5.size)
      have hz6 := HD6.size
      have DA6 := HB0.out.trans (HD6.mono (show w.heap.size ≤ W.heap.size by omega))
      have t6_0_0 := (hb.cell (p := ⟨w2.heap.size, 0, none⟩) (by first | omega | (simp; done) | (simp; omega))).trans (by go_cell : _ = some (.int .i64 0))
      have z6_0_0 := (hb.frozen (p := ⟨w2.heap.size, 0, none⟩) (by first | omega | (simp; done) | (simp; omega))).trans (by go_cell : _ = false)
      have t6_0_1 := (hb.cell (p := ⟨w2.heap.size, 1, none⟩) (by first | omega | (simp; done) | (simp; omega))).trans (by go_cell : _ = some (.int .i64 0))
      have z6_0_1 := (hb.frozen (p := ⟨w2.heap.size, 1, none⟩) (by first | omega | (simp; done) | (simp; omega))).trans (by go_cell : _ = false)
      have t6_0_2 := (hb.cell (p := ⟨w2.heap.size, 2, none⟩) (by first | omega | (simp; done) | (simp; omega))).trans (by go_cell : _ = some (.int .i64 0))
      have z6_0_2 := (hb.frozen (p := ⟨w2.heap.size, 2, none⟩) (by first | omega | (simp; done) | (simp; omega))).trans (by go_cell : _ = false)
      have t6_0_3 := (hb.cell (p := ⟨w2.heap.size, 3, none⟩) (by first | omega | (simp; done) | (simp; omega))).trans (by go_cell : _ = some (.int .i64 0))
      have z6_0_3 := (hb.frozen (p := ⟨w2.heap.size, 3, none⟩) (by first | omega | (simp; done) | (simp; omega))).trans (by go_cell : _ = false)
      have l6_0 : w2.heap.size < w6.heap.size := by have hs := hb.size; (try simp at hs); omega
      clear hb hHeld
      obtain ⟨r, hr⟩ : ∃ r, (mulR ⟨⟨a, b⟩, ⟨c, d⟩⟩ ⟨⟨s, t⟩, ⟨-v, -u⟩⟩) = r := ⟨_, rfl⟩
      rw [hr] at he
      have HR2 := Lib.hid hr
      clear hr
      rcases r with ⟨⟨z1, z2⟩, ⟨z3, z4⟩⟩ | k
      case' bad =>
        obtain rfl : e = .panicked [{ v := .iface 26 (.int .i64 k), recovered := false }] := he
        refine ⟨rfl, ?_, by go_grown⟩
        rw [← HSP.out]; simp only [divR, cjR, negS, HR0.out, if_neg (Int.not_le.mpr HP.out), HR2.out, Out.binds, IsR]; (try rfl)
      obtain rfl : e = .returned (.agg #[.int .i64 z1, .int .i64 z2, .int .i64 z3, .int .i64 z4]) := he
      refine hK.out _ _ (G0.out _ HD6) (fun hHeld => ?_)
      clear hK K
      try simp only [act_all]
      refine wpAnyH_ready (rs := [5]) (by kernel_rfl) (by simp) ?_
      refine AllReadyH.cons (o := _) rfl (fun K hK => ?_) AllReadyH.nil
      obtain ⟨_, _, _, _, _, _, _, _⟩ := G0.out _ HD6
      obtain ⟨_, _, _, _, _, _, _, _, _, _⟩ := G1.out _ HD6
      have nb11 : w.heap.size < w6.heap.size := by omega
      have nx11 : ¬ w2.heap.size = w.heap.size := by omega
      have nb15 : w.heap.size + 1 < w6.heap.size := by omega
      have nx15 : ¬ w2.heap.size = w.heap.size + 1 := by omega
      go_simp
      refine hK.out _ _ (by refine ⟨?_, ?_, ?_, ?_, ?_, ?_, ?_, ?_⟩ <;> go_cell) (fun hHeld => ?_)
      clear hK K
      try simp only [act_all]
      refine wpAnyH_done (by kernel_rfl) ?_ _
      go_upto_region 5 with fail
      have nq1 : PB < w6.heap.size := by omega
      have nq2 : w.heap.size + 1 + 1 < w6.heap.size := by omega
      have DE : Below w.heap.size w ((((w6.setCell ⟨w2.heap.size, 0, none⟩ (.int .i64 z1)).setCell ⟨w2.heap.size, 1, none⟩ (.int .i64 z2)).setCell ⟨w2.heap.size, 2, none⟩ (.int .i64 z3)).setCell ⟨w2.heap.size, 3, none⟩ (.int .i64 z4)) := ((((DA6).setCell (p := ⟨w2.heap.size, 0, none⟩) (by simp only; omega) (.int .i64 z1)).setCell (p := ⟨w2.heap.size, 1, none⟩) (by simp only; omega) (.int .i64 z2)).setCell (p := ⟨w2.heap.size, 2, none⟩) (by simp only; omega) (.int .i64 z3)).setCell (p := ⟨w2.heap.size, 3, none⟩) (by simp only; omega) (.int .i64 z4)
      have c0 : ((((w6.setCell ⟨w2.heap.size, 0, none⟩ (.int .i64 z1)).setCell ⟨w2.heap.size, 1, none⟩ (.int .i64 z2)).setCell ⟨w2.heap.size, 2, none⟩ (.int .i64 z3)).setCell ⟨w2.heap.size, 3, none⟩ (.int .i64 z4)).cell? ⟨w2.heap.size, 0, none⟩ = some (.int .i64 z1) := by go_cell
      have c1 : ((((w6.setCell ⟨w2.heap.size, 0, none⟩ (.int .i64 z1)).setCell ⟨w2.heap.size, 1, none⟩ (.int .i64 z2)).setCell ⟨w2.heap.size, 2, none⟩ (.int .i64 z3)).setCell ⟨w2.heap.size, 3, none⟩ (.int .i64 z4)).cell? ⟨w2.heap.size, 1, none⟩ = some (.int .i64 z2) := by go_cell
      have c2 : ((((w6.setCell ⟨w2.heap.size, 0, none⟩ (.int .i64 z1)).setCell ⟨w2.heap.size, 1, none⟩ (.int .i64 z2)).setCell ⟨w2.heap.size, 2, none⟩ (.int .i64 z3)).setCell ⟨w2.heap.size, 3, none⟩ (.int .i64 z4)).cell? ⟨w2.heap.size, 2, none⟩ = some (.int .i64 z3) := by go_cell
      have c3 : ((((w6.setCell ⟨w2.heap.size, 0, none⟩ (.int .i64 z1)).setCell ⟨w2.heap.size, 1, none⟩ (.int .i64 z2)).setCell ⟨w2.heap.size, 2, none⟩ (.int .i64 z3)).setCell ⟨w2.heap.size, 3, none⟩ (.int .i64 z4)).cell? ⟨w2.heap.size, 3, none⟩ = some (.int .i64 z4) := by go_cell
      have c4 : ((((w6.setCell ⟨w2.heap.size, 0, none⟩ (.int .i64 z1)).setCell ⟨w2.heap.size, 1, none⟩ (.int .i64 z2)).setCell ⟨w2.heap.size, 2, none⟩ (.int .i64 z3)).setCell ⟨w2.heap.size, 3, none⟩ (.int .i64 z4)).cell? ⟨PB, 0, none⟩ = some (.int .i64 p) := by go_cell
      have c5 : ((((w6.setCell ⟨w2.heap.size, 0, none⟩ (.int .i64 z1)).setCell ⟨w2.heap.size, 1, none⟩ (.int .i64 z2)).setCell ⟨w2.heap.size, 2, none⟩ (.int .i64 z3)).setCell ⟨w2.heap.size, 3, none⟩ (.int .i64 z4)).cell? ⟨PB, 1, none⟩ = some (.int .i64 q) := by go_cell
      have d0 : ((((w6.setCell ⟨w2.heap.size, 0, none⟩ (.int .i64 z1)).setCell ⟨w2.heap.size, 1, none⟩ (.int .i64 z2)).setCell ⟨w2.heap.size, 2, none⟩ (.int .i64 z3)).setCell ⟨w2.heap.size, 3, none⟩ (.int .i64 z4)).cell? ⟨w.heap.size + 1 + 1, 0, none⟩ = some (.int .i64 0) := by go_cell
      have d1 : ((((w6.setCell ⟨w2.heap.size, 0, none⟩ (.int .i64 z1)).setCell ⟨w2.heap.size, 1, none⟩ (.int .i64 z2)).setCell ⟨w2.heap.size, 2, none⟩ (.int .i64 z3)).setCell ⟨w2.heap.size, 3, none⟩ (.int .i64 z4)).cell? ⟨w.heap.size + 1 + 1, 1, none⟩ = some (.int .i64 0) := by go_cell
      have d2 : ((((w6.setCell ⟨w2.heap.size, 0, none⟩ (.int .i64 z1)).setCell ⟨w2.heap.size, 1, none⟩ (.int .i64 z2)).setCell ⟨w2.heap.size, 2, none⟩ (.int .i64 z3)).setCell ⟨w2.heap.size, 3, none⟩ (.int .i64 z4)).cell? ⟨w.heap.size + 1 + 1, 2, none⟩ = some (.int .i64 0) := by go_cell
      have d3 : ((((w6.setCell ⟨w2.heap.size, 0, none⟩ (.int .i64 z1)).setCell ⟨w2.heap.size, 1, none⟩ (.int .i64 z2)).setCell ⟨w2.heap.size, 2, none⟩ (.int .i64 z3)).setCell ⟨w2.heap.size, 3, none⟩ (.int .i64 z4)).cell? ⟨w.heap.size + 1 + 1, 3, none⟩ = some (.int .i64 0) := by go_cell
      have d4 : ((((w6.setCell ⟨w2.heap.size, 0, none⟩ (.int .i64 z1)).setCell ⟨w2.heap.size, 1, none⟩ (.int .i64 z2)).setCell ⟨w2.heap.size, 2, none⟩ (.int .i64 z3)).setCell ⟨w2.heap.size, 3, none⟩ (.int .i64 z4)).frozen? ⟨w.heap.size + 1 + 1, 0, none⟩ = false := by go_cell
      have d5 : ((((w6.setCell ⟨w2.heap.size, 0, none⟩ (.int .i64 z1)).setCell ⟨w2.heap.size, 1, none⟩ (.int .i64 z2)).setCell ⟨w2.heap.size, 2, none⟩ (.int .i64 z3)).setCell ⟨w2.heap.size, 3, none⟩ (.int .i64 z4)).frozen? ⟨w.heap.size + 1 + 1, 1, none⟩ = false := by go_cell
      have d6 : ((((w6.setCell ⟨w2.heap.size, 0, none⟩ (.int .i64 z1)).setCell ⟨w2.heap.size, 1, none⟩ (.int .i64 z2)).setCell ⟨w2.heap.size, 2, none⟩ (.int .i64 z3)).setCell ⟨w2.heap.size, 3, none⟩ (.int .i64 z4)).frozen? ⟨w.heap.size + 1 + 1, 2, none⟩ = false := by go_cell
      have d7 : ((((w6.setCell ⟨w2.heap.size, 0, none⟩ (.int .i64 z1)).setCell ⟨w2.heap.size, 1, none⟩ (.int .i64 z2)).setCell ⟨w2.heap.size, 2, none⟩ (.int .i64 z3)).setCell ⟨w2.heap.size, 3, none⟩ (.int .i64 z4)).frozen? ⟨w.heap.size + 1 + 1, 3, none⟩ = false := by go_cell
      have sE : w.heap.size + 1 + 1 < ((((w6.setCell ⟨w2.heap.size, 0, none⟩ (.int .i64 z1)).setCell ⟨w2.heap.size, 1, none⟩ (.int .i64 z2)).setCell ⟨w2.heap.size, 2, none⟩ (.int .i64 z3)).setCell ⟨w2.heap.size, 3, none⟩ (.int .i64 z4)).heap.size := by first | (simp; done) | (simp; omega)
      have sX : w2.heap.size < ((((w6.setCell ⟨w2.heap.size, 0, none⟩ (.int .i64 z1)).setCell ⟨w2.heap.size, 1, none⟩ (.int .i64 z2)).setCell ⟨w2.heap.size, 2, none⟩ (.int .i64 z3)).setCell ⟨w2.heap.size, 3, none⟩ (.int .i64 z4)).heap.size := by first | (simp; done) | (simp; omega)
      have sQ : PB < ((((w6.setCell ⟨w2.heap.size, 0, none⟩ (.int .i64 z1)).setCell ⟨w2.heap.size, 1, none⟩ (.int .i64 z2)).setCell ⟨w2.heap.size, 2, none⟩ (.int .i64 z3)).setCell ⟨w2.heap.size, 3, none⟩ (.int .i64 z4)).heap.size := by first | (simp; done) | (simp; omega)
      clear hHeld
      generalize ((((w6.setCell ⟨w2.heap.size, 0, none⟩ (.int .i64 z1)).setCell ⟨w2.heap.size, 1, none⟩ (.int .i64 z2)).setCell ⟨w2.heap.size, 2, none⟩ (.int .i64 z3)).setCell ⟨w2.heap.size, 3, none⟩ (.int .i64 z4)) = V at *
      generalize w2.heap.size = XB at *
      have HZ := Lib.hid ((okR_iff _).1 (mulR_ok HR2.out))
      have HD : Below V.heap.size V V := Below.refl _ _
      have K0 := Lib.hid DE
      have J0 : Hid (∀ w', Below V.heap.size V w' → w'.cell? ⟨XB, 0, none⟩ = some (.int .i64 z1) ∧ w'.cell? ⟨XB, 1, none⟩ = some (.int .i64 z2) ∧ w'.cell? ⟨XB, 2, none⟩ = some (.int .i64 z3) ∧ w'.cell? ⟨XB, 3, none⟩ = some (.int .i64 z4) ∧ w'.cell? ⟨PB, 0, none⟩ = some (.int .i64 p) ∧ w'.cell? ⟨PB, 1, none⟩ = some (.int .i64 q)) := Lib.hid (fun w' hb => by
        have e0 := fun o' => hb.cell (p := ⟨XB, o', none⟩) (by simp only; omega)
        have e1 := fun o' => hb.cell (p := ⟨PB, o', none⟩) (by simp only; omega)
        exact ⟨(e0 _).trans c0, (e0 _).trans c1, (e0 _).trans c2, (e0 _).trans c3, (e1 _).trans c4, (e1 _).trans c5⟩)
      have J1 : Hid (∀ w', Below V.heap.size V w' → w'.cell? ⟨w.heap.size + 1 + 1, 0, none⟩ = some (.int .i64 0) ∧ w'.cell? ⟨w.heap.size + 1 + 1, 1, none⟩ = some (.int .i64 0) ∧ w'.cell? ⟨w.heap.size + 1 + 1, 2, none⟩ = some (.int .i64 0) ∧ w'.cell? ⟨w.heap.size + 1 + 1, 3, none⟩ = some (.int .i64 0) ∧ w'.frozen? ⟨w.heap.size + 1 + 1, 0, none⟩ = false ∧ w'.frozen? ⟨w.heap.size + 1 + 1, 1, none⟩ = false ∧ w'.frozen? ⟨w.heap.size + 1 + 1, 2, none⟩ = false ∧ w'.frozen? ⟨w.heap.size + 1 + 1, 3, none⟩ = false) := Lib.hid (fun w' hb => by
        have e0 := fun o' => hb.cell (p := ⟨w.heap.size + 1 + 1, o', none⟩) (by simp only; omega)
        have e1 := fun o' => hb.frozen (p := ⟨w.heap.size + 1 + 1, o', none⟩) (by simp only; omega)
        exact ⟨(e0 _).trans d0, (e0 _).trans d1, (e0 _).trans d2, (e0 _).trans d3, (e1 _).trans d4, (e1 _).trans d5, (e1 _).trans d6, (e1 _).trans d7⟩)
      clear DE c0 c1 c2 c3 c4 c5 d0 d1 d2 d3 d4 d5 d6 d7
      have HD21 : Below V.heap.size V V.drew := HD.drew
      refine wp_region_held_drew (S := fun w' => w'.cell? ⟨XB, 0, none⟩ = some (.int .i64 z1) ∧ w'.cell? ⟨XB, 1, none⟩ = some (.int .i64 z2) ∧ w'.cell? ⟨XB, 2, none⟩ = some (.int .i64 z3) ∧ w'.cell? ⟨XB, 3, none⟩ = some (.int .i64 z4) ∧ w'.cell? ⟨PB, 0, none⟩ = some (.int .i64 p) ∧ w'.cell? ⟨PB, 1, none⟩ = some (.int .i64 q)) (by kernel_rfl) (J0.out _ HD21) (fun hHeld => ?_)
      refine wpAnyH_take (i := 0) (oi := _) (v := ?_) rfl (by kernel_rfl) (by kernel_rfl) (by kernel_rfl) (fun _ _ _ h => h) (Or.inl ⟨by rfl, ?_⟩) (by assumption) ?_
      rotate_left
      · intro w hSw; obtain ⟨_, _, _, _, _, _⟩ := hSw; go_simp; (try with_reducible rfl)
      try change wpAnyH _ _ _ _ _ _ _ (Act.put _ (some 17) _) _
      try simp only [act_all]
      refine wpAnyH_take (i := 1) (oi := _) (v := ?_) rfl (by kernel_rfl) (by kernel_rfl) (by kernel_rfl) (fun _ _ _ h => h) (Or.inl ⟨by rfl, ?_⟩) (by assumption) ?_
      rotate_left
      · intro w hSw; obtain ⟨_, _, _, _, _, _⟩ := hSw; go_simp; (try with_reducible rfl)
      try change wpAnyH _ _ _ _ _ _ _ (Act.put _ (some 18) _) _
      try simp only [act_all]
      refine wpAnyH_take (i := 2) (oi := _) (v := ?_) rfl (by kernel_rfl) (by kernel_rfl) (by kernel_rfl) (fun _ _ _ h => h) (Or.inl ⟨by rfl, ?_⟩) (by assumption) ?_
      rotate_left
      · intro w hSw; obtain ⟨_, _, _, _, _, _⟩ := hSw; go_simp; (try with_reducible rfl)
      try change wpAnyH _ _ _ _ _ _ _ (Act.put _ (some 19) _) _
      try simp only [act_all]
      refine wpAnyH_take (i := 4) (oi := _) (v := ?_) rfl (by kernel_rfl) (by kernel_rfl) (by kernel_rfl) (fun _ _ _ h => h) (Or.inl ⟨by rfl, ?_⟩) (by assumption) ?_
      rotate_left
      · intro w hSw; obtain ⟨_, _, _, _, _, _⟩ := hSw; go_simp; (try with_reducible rfl)
      try change wpAnyH _ _ _ _ _ _ _ (Act.put _ (some 21) _) _
      try simp only [act_all]
      refine wpAnyH_take (i := 5) (oi := _) (v := ?_) rfl (by kernel_rfl) (by kernel_rfl) (by kernel_rfl) (fun _ _ _ h => h) (Or.inl ⟨by rfl, ?_⟩) (by assumption) ?_
      rotate_left
      · intro w hSw; obtain ⟨_, _, _, _, _, _⟩ := hSw; go_simp; (try with_reducible rfl)
      try change wpAnyH _ _ _ _ _ _ _ (Act.put _ (some 22) _) _
      try simp only [act_all]
      refine wpAnyH_take (i := 6) (oi := _) (v := ?_) rfl (by kernel_rfl) (by kernel_rfl) (by kernel_rfl) (fun _ _ _ h => h) (Or.inl ⟨by rfl, ?_⟩) (by assumption) ?_
      rotate_left
      · intro w hSw; obtain ⟨_, _, _, _, _, _⟩ := hSw; go_simp; (try with_reducible rfl)
      try change wpAnyH _ _ _ _ _ _ _ (Act.put _ (some 23) _) _
      try simp only [act_all]
      refine wpAnyH_ready (rs := [3]) (by kernel_rfl) (by simp) ?_
      refine AllReadyH.cons (o := _) rfl (fun K hK => ?_) AllReadyH.nil
      go_simp
      refine (divSpans_any z1 z2 p q _ HZ.out.1 HO.out HP.out).mono ?_
      rintro e w22 ⟨he, hb⟩
      have HD22 : Below V.heap.size V w22 := Below.trans HD21 (hb.mono HD21.size)
      have hz22 := HD22.size
      have DA22 := K0.out.trans (HD22.mono (show w.heap.size ≤ V.heap.size by omega))
      clear hb hHeld
      obtain ⟨r, hr⟩ : ∃ r, (divS ⟨z1, z2⟩ ⟨p, q⟩) = r := ⟨_, rfl⟩
      rw [hr] at he
      have HR3 := Lib.hid hr
      clear hr
      rcases r with ⟨p1, q1⟩ | k
      case' bad =>
        obtain rfl : e = .panicked [{ v := .iface 26 (.int .i64 k), recovered := false }] := he
        refine ⟨rfl, ?_, by go_grown⟩
        rw [← HSP.out]; simp only [divR, cjR, negS, HR0.out, if_neg (Int.not_le.mpr HP.out), HR2.out, HR3.out, Out.binds, IsR]; (try rfl)
      obtain rfl : e = .returned (.agg #[.int .i64 p1, .int .i64 q1]) := he
      refine hK.out _ _ (J0.out _ HD22) (fun hHeld => ?_)
      clear hK K
      try simp only [act_all]
      refine wpAnyH_ready (rs := [7]) (by kernel_rfl) (by simp) ?_
      refine AllReadyH.cons (o := _) rfl (fun K hK => ?_) AllReadyH.nil
      go_simp
      refine (divSpans_any z3 z4 p q _ HZ.out.2 HO.out HP.out).mono ?_
      rintro e w23 ⟨he, hb⟩
      have HD23 : Below V.heap.size V w23 := Below.trans HD22 (hb.mono HD22.size)
      have hz23 := HD23.size
      have DA23 := K0.out.trans (HD23.mono (show w.heap.size ≤ V.heap.size by omega))
      clear hb hHeld
      obtain ⟨r, hr⟩ : ∃ r, (divS ⟨z3, z4⟩ ⟨p, q⟩) = r := ⟨_, rfl⟩
      rw [hr] at he
      have HR4 := Lib.hid hr
      clear hr
      rcases r with ⟨p2, q2⟩ | k
      case' bad =>
        obtain rfl : e = .panicked [{ v := .iface 26 (.int .i64 k), recovered := false }] := he
        refine ⟨rfl, ?_, by go_grown⟩
        rw [← HSP.out]; simp only [divR, cjR, negS, HR0.out, if_neg (Int.not_le.mpr HP.out), HR2.out, HR3.out, HR4.out, Out.binds, IsR]; (try rfl)
      obtain rfl : e = .returned (.agg #[.int .i64 p2, .int .i64 q2]) := he
      refine hK.out _ _ (J0.out _ HD23) (fun hHeld => ?_)
      clear hK K
      try simp only [act_all]
      refine wpAnyH_take (i := 8) (oi := _) (v := ?_) rfl (by kernel_rfl) (by kernel_rfl) (by kernel_rfl) (fun _ _ _ h => h) (Or.inl ⟨by rfl, ?_⟩) (by assumption) ?_
      rotate_left
      · intro w hSw; obtain ⟨_, _, _, _, _, _⟩ := hSw; go_simp; (try with_reducible rfl)
      try change wpAnyH _ _ _ _ _ _ _ (Act.put _ (some 25) _) _
      try simp only [act_all]
      refine wpAnyH_ready (rs := [9]) (by kernel_rfl) (by simp) ?_
      refine AllReadyH.cons (o := _) rfl (fun K hK => ?_) AllReadyH.nil
      obtain ⟨_, _, _, _, _, _⟩ := J0.out _ HD23
      obtain ⟨_, _, _, _, _, _, _, _⟩ := J1.out _ HD23
      go_simp
      refine hK.out _ _ (by refine ⟨?_, ?_, ?_, ?_, ?_, ?_⟩ <;> go_cell) (fun hHeld => ?_)
      clear hK K
      try simp only [act_all]
      refine wpAnyH_done (by kernel_rfl) ?_ _
      go_wp2_with fail
      refine bodyPost_ret (v := .agg #[.int .i64 p1, .int .i64 q1, .int .i64 p2, .int .i64 q2]) (by simp [results, Try.results76, go_sem, *]) rfl ⟨?_, by go_grown⟩
      rw [← HSP.out]; simp only [divR, cjR, negS, HR0.out, if_neg (Int.not_le.mpr HP.out), HR2.out, HR3.out, HR4.out, Out.binds, IsR]; (try rfl)
    refine AllReadyH.cons (o := _) rfl (fun K hK => ?_) AllReadyH.nil
    have HD7 : Below W.heap.size W (W.drew.alloc (Obj.cells #[.int .i64 0, .int .i64 0, .int .i64 0, .int .i64 0] 25)) := bal HD1 _
    go_simp
    refine hK.out _ _ (G0.out _ HD7) (fun hHeld => ?_)
    clear hK K
    try simp only [act_all]
    refine wpAnyH_ready (rs := [2]) (by kernel_rfl) (by simp) ?_
    refine AllReadyH.cons (o := _) rfl (fun K hK => ?_) AllReadyH.nil
    go_simp
    refine (conjugate_any s t u v _ ⟨H6.out.1, H6.out.2.1⟩ ⟨H6.out.2.2.1, H6.out.2.2.2⟩).mono ?_
    rintro e w8 ⟨he, hb⟩
    have HD8 : Below W.heap.size W w8 := Below.trans HD7 (hb.mono HD7.size)
    have hz8 := HD8.size
    have DA8 := HB0.out.trans (HD8.mono (show w.heap.size ≤ W.heap.size by omega))
    have t8_0_0 := (hb.cell (p := ⟨W.heap.size, 0, none⟩) (by first | omega | (simp; done) | (simp; omega))).trans (by go_cell : _ = some (.int .i64 0))
    have z8_0_0 := (hb.frozen (p := ⟨W.heap.size, 0, none⟩) (by first | omega | (simp; done) | (simp; omega))).trans (by go_cell : _ = false)
    have t8_0_1 := (hb.cell (p := ⟨W.heap.size, 1, none⟩) (by first | omega | (simp; done) | (simp; omega))).trans (by go_cell : _ = some (.int .i64 0))
    have z8_0_1 := (hb.frozen (p := ⟨W.heap.size, 1, none⟩) (by first | omega | (simp; done) | (simp; omega))).trans (by go_cell : _ = false)
    have t8_0_2 := (hb.cell (p := ⟨W.heap.size, 2, none⟩) (by first | omega | (simp; done) | (simp; omega))).trans (by go_cell : _ = some (.int .i64 0))
    have z8_0_2 := (hb.frozen (p := ⟨W.heap.size, 2, none⟩) (by first | omega | (simp; done) | (simp; omega))).trans (by go_cell : _ = false)
    have t8_0_3 := (hb.cell (p := ⟨W.heap.size, 3, none⟩) (by first | omega | (simp; done) | (simp; omega))).trans (by go_cell : _ = some (.int .i64 0))
    have z8_0_3 := (hb.frozen (p := ⟨W.heap.size, 3, none⟩) (by first | omega | (simp; done) | (simp; omega))).trans (by go_cell : _ = false)
    have l8_0 : W.heap.size < w8.heap.size := by have hs := hb.size; (try simp at hs); omega
    clear hb hHeld
    obtain rfl : e = .returned (.agg #[.int .i64 s, .int .i64 t, .int .i64 (-v), .int .i64 (-u)]) := he
    refine hK.out _ _ (G0.out _ HD8) (fun hHeld => ?_)
    clear hK K
    try simp only [act_all]
    refine wpAnyH_ready (rs := [3]) (by kernel_rfl) (by simp) ?_
    refine AllReadyH.cons (o := _) rfl (fun K hK => ?_) AllReadyH.nil
    go_simp
    refine (mulRect_any a b c d s t (-v) (-u) _ H1.out H2.out H3.out H5.out).mono ?_
    rintro e w9 ⟨he, hb⟩
    have HD9 : Below W.heap.size W w9 := Below.trans HD8 (hb.mono HD8.size)
    have hz9 := HD9.size
    have DA9 := HB0.out.trans (HD9.mono (show w.heap.size ≤ W.heap.size by omega))
    have t9_0_0 := (hb.cell (p := ⟨W.heap.size, 0, none⟩) (by first | omega | (simp; done) | (simp; omega))).trans (by go_cell : _ = some (.int .i64 0))
    have z9_0_0 := (hb.frozen (p := ⟨W.heap.size, 0, none⟩) (by first | omega | (simp; done) | (simp; omega))).trans (by go_cell : _ = false)
    have t9_0_1 := (hb.cell (p := ⟨W.heap.size, 1, none⟩) (by first | omega | (simp; done) | (simp; omega))).trans (by go_cell : _ = some (.int .i64 0))
    have z9_0_1 := (hb.frozen (p := ⟨W.heap.size, 1, none⟩) (by first | omega | (simp; done) | (simp; omega))).trans (by go_cell : _ = false)
    have t9_0_2 := (hb.cell (p := ⟨W.heap.size, 2, none⟩) (by first | omega | (simp; done) | (simp; omega))).trans (by go_cell : _ = some (.int .i64 0))
    have z9_0_2 := (hb.frozen (p := ⟨W.heap.size, 2, none⟩) (by first | omega | (simp; done) | (simp; omega))).trans (by go_cell : _ = false)
    have t9_0_3 := (hb.cell (p := ⟨W.heap.size, 3, none⟩) (by first | omega | (simp; done) | (simp; omega))).trans (by go_cell : _ = some (.int .i64 0))
    have z9_0_3 := (hb.frozen (p := ⟨W.heap.size, 3, none⟩) (by first | omega | (simp; done) | (simp; omega))).trans (by go_cell : _ = false)
    have l9_0 : W.heap.size < w9.heap.size := by have hs := hb.size; (try simp at hs); omega
    clear hb hHeld
    obtain ⟨r, hr⟩ : ∃ r, (mulR ⟨⟨a, b⟩, ⟨c, d⟩⟩ ⟨⟨s, t⟩, ⟨-v, -u⟩⟩) = r := ⟨_, rfl⟩
    rw [hr] at he
    have HR2 := Lib.hid hr
    clear hr
    rcases r with ⟨⟨z1, z2⟩, ⟨z3, z4⟩⟩ | k
    case' bad =>
      obtain rfl : e = .panicked [{ v := .iface 26 (.int .i64 k), recovered := false }] := he
      refine ⟨rfl, ?_, by go_grown⟩
      rw [← HSP.out]; simp only [divR, cjR, negS, HR0.out, if_neg (Int.not_le.mpr HP.out), HR2.out, Out.binds, IsR]; (try rfl)
    obtain rfl : e = .returned (.agg #[.int .i64 z1, .int .i64 z2, .int .i64 z3, .int .i64 z4]) := he
    refine hK.out _ _ (G0.out _ HD9) (fun hHeld => ?_)
    clear hK K
    try simp only [act_all]
    refine wpAnyH_ready (rs := [5]) (by kernel_rfl) (by simp) ?_
    refine AllReadyH.cons (o := _) rfl (fun K hK => ?_) AllReadyH.nil
    obtain ⟨_, _, _, _, _, _, _, _⟩ := G0.out _ HD9
    obtain ⟨_, _, _, _, _, _, _, _, _, _⟩ := G1.out _ HD9
    have nb11 : w.heap.size < w9.heap.size := by omega
    have nx11 : ¬ W.heap.size = w.heap.size := by omega
    have nb15 : w.heap.size + 1 < w9.heap.size := by omega
    have nx15 : ¬ W.heap.size = w.heap.size + 1 := by omega
    go_simp
    refine hK.out _ _ (by refine ⟨?_, ?_, ?_, ?_, ?_, ?_, ?_, ?_⟩ <;> go_cell) (fun hHeld => ?_)
    clear hK K
    try simp only [act_all]
    refine wpAnyH_done (by kernel_rfl) ?_ _
    go_upto_region 5 with fail
    have nq1 : PB < w9.heap.size := by omega
    have nq2 : w.heap.size + 1 + 1 < w9.heap.size := by omega
    have DE : Below w.heap.size w ((((w9.setCell ⟨W.heap.size, 0, none⟩ (.int .i64 z1)).setCell ⟨W.heap.size, 1, none⟩ (.int .i64 z2)).setCell ⟨W.heap.size, 2, none⟩ (.int .i64 z3)).setCell ⟨W.heap.size, 3, none⟩ (.int .i64 z4)) := ((((DA9).setCell (p := ⟨W.heap.size, 0, none⟩) (by simp only; omega) (.int .i64 z1)).setCell (p := ⟨W.heap.size, 1, none⟩) (by simp only; omega) (.int .i64 z2)).setCell (p := ⟨W.heap.size, 2, none⟩) (by simp only; omega) (.int .i64 z3)).setCell (p := ⟨W.heap.size, 3, none⟩) (by simp only; omega) (.int .i64 z4)
    have c0 : ((((w9.setCell ⟨W.heap.size, 0, none⟩ (.int .i64 z1)).setCell ⟨W.heap.size, 1, none⟩ (.int .i64 z2)).setCell ⟨W.heap.size, 2, none⟩ (.int .i64 z3)).setCell ⟨W.heap.size, 3, none⟩ (.int .i64 z4)).cell? ⟨W.heap.size, 0, none⟩ = some (.int .i64 z1) := by go_cell
    have c1 : ((((w9.setCell ⟨W.heap.size, 0, none⟩ (.int .i64 z1)).setCell ⟨W.heap.size, 1, none⟩ (.int .i64 z2)).setCell ⟨W.heap.size, 2, none⟩ (.int .i64 z3)).setCell ⟨W.heap.size, 3, none⟩ (.int .i64 z4)).cell? ⟨W.heap.size, 1, none⟩ = some (.int .i64 z2) := by go_cell
    have c2 : ((((w9.setCell ⟨W.heap.size, 0, none⟩ (.int .i64 z1)).setCell ⟨W.heap.size, 1, none⟩ (.int .i64 z2)).setCell ⟨W.heap.size, 2, none⟩ (.int .i64 z3)).setCell ⟨W.heap.size, 3, none⟩ (.int .i64 z4)).cell? ⟨W.heap.size, 2, none⟩ = some (.int .i64 z3) := by go_cell
    have c3 : ((((w9.setCell ⟨W.heap.size, 0, none⟩ (.int .i64 z1)).setCell ⟨W.heap.size, 1, none⟩ (.int .i64 z2)).setCell ⟨W.heap.size, 2, none⟩ (.int .i64 z3)).setCell ⟨W.heap.size, 3, none⟩ (.int .i64 z4)).cell? ⟨W.heap.size, 3, none⟩ = some (.int .i64 z4) := by go_cell
    have c4 : ((((w9.setCell ⟨W.heap.size, 0, none⟩ (.int .i64 z1)).setCell ⟨W.heap.size, 1, none⟩ (.int .i64 z2)).setCell ⟨W.heap.size, 2, none⟩ (.int .i64 z3)).setCell ⟨W.heap.size, 3, none⟩ (.int .i64 z4)).cell? ⟨PB, 0, none⟩ = some (.int .i64 p) := by go_cell
    have c5 : ((((w9.setCell ⟨W.heap.size, 0, none⟩ (.int .i64 z1)).setCell ⟨W.heap.size, 1, none⟩ (.int .i64 z2)).setCell ⟨W.heap.size, 2, none⟩ (.int .i64 z3)).setCell ⟨W.heap.size, 3, none⟩ (.int .i64 z4)).cell? ⟨PB, 1, none⟩ = some (.int .i64 q) := by go_cell
    have d0 : ((((w9.setCell ⟨W.heap.size, 0, none⟩ (.int .i64 z1)).setCell ⟨W.heap.size, 1, none⟩ (.int .i64 z2)).setCell ⟨W.heap.size, 2, none⟩ (.int .i64 z3)).setCell ⟨W.heap.size, 3, none⟩ (.int .i64 z4)).cell? ⟨w.heap.size + 1 + 1, 0, none⟩ = some (.int .i64 0) := by go_cell
    have d1 : ((((w9.setCell ⟨W.heap.size, 0, none⟩ (.int .i64 z1)).setCell ⟨W.heap.size, 1, none⟩ (.int .i64 z2)).setCell ⟨W.heap.size, 2, none⟩ (.int .i64 z3)).setCell ⟨W.heap.size, 3, none⟩ (.int .i64 z4)).cell? ⟨w.heap.size + 1 + 1, 1, none⟩ = some (.int .i64 0) := by go_cell
    have d2 : ((((w9.setCell ⟨W.heap.size, 0, none⟩ (.int .i64 z1)).setCell ⟨W.heap.size, 1, none⟩ (.int .i64 z2)).setCell ⟨W.heap.size, 2, none⟩ (.int .i64 z3)).setCell ⟨W.heap.size, 3, none⟩ (.int .i64 z4)).cell? ⟨w.heap.size + 1 + 1, 2, none⟩ = some (.int .i64 0) := by go_cell
    have d3 : ((((w9.setCell ⟨W.heap.size, 0, none⟩ (.int .i64 z1)).setCell ⟨W.heap.size, 1, none⟩ (.int .i64 z2)).setCell ⟨W.heap.size, 2, none⟩ (.int .i64 z3)).setCell ⟨W.heap.size, 3, none⟩ (.int .i64 z4)).cell? ⟨w.heap.size + 1 + 1, 3, none⟩ = some (.int .i64 0) := by go_cell
    have d4 : ((((w9.setCell ⟨W.heap.size, 0, none⟩ (.int .i64 z1)).setCell ⟨W.heap.size, 1, none⟩ (.int .i64 z2)).setCell ⟨W.heap.size, 2, none⟩ (.int .i64 z3)).setCell ⟨W.heap.size, 3, none⟩ (.int .i64 z4)).frozen? ⟨w.heap.size + 1 + 1, 0, none⟩ = false := by go_cell
    have d5 : ((((w9.setCell ⟨W.heap.size, 0, none⟩ (.int .i64 z1)).setCell ⟨W.heap.size, 1, none⟩ (.int .i64 z2)).setCell ⟨W.heap.size, 2, none⟩ (.int .i64 z3)).setCell ⟨W.heap.size, 3, none⟩ (.int .i64 z4)).frozen? ⟨w.heap.size + 1 + 1, 1, none⟩ = false := by go_cell
    have d6 : ((((w9.setCell ⟨W.heap.size, 0, none⟩ (.int .i64 z1)).setCell ⟨W.heap.size, 1, none⟩ (.int .i64 z2)).setCell ⟨W.heap.size, 2, none⟩ (.int .i64 z3)).setCell ⟨W.heap.size, 3, none⟩ (.int .i64 z4)).frozen? ⟨w.heap.size + 1 + 1, 2, none⟩ = false := by go_cell
    have d7 : ((((w9.setCell ⟨W.heap.size, 0, none⟩ (.int .i64 z1)).setCell ⟨W.heap.size, 1, none⟩ (.int .i64 z2)).setCell ⟨W.heap.size, 2, none⟩ (.int .i64 z3)).setCell ⟨W.heap.size, 3, none⟩ (.int .i64 z4)).frozen? ⟨w.heap.size + 1 + 1, 3, none⟩ = false := by go_cell
    have sE : w.heap.size + 1 + 1 < ((((w9.setCell ⟨W.heap.size, 0, none⟩ (.int .i64 z1)).setCell ⟨W.heap.size, 1, none⟩ (.int .i64 z2)).setCell ⟨W.heap.size, 2, none⟩ (.int .i64 z3)).setCell ⟨W.heap.size, 3, none⟩ (.int .i64 z4)).heap.size := by first | (simp; done) | (simp; omega)
    have sX : W.heap.size < ((((w9.setCell ⟨W.heap.size, 0, none⟩ (.int .i64 z1)).setCell ⟨W.heap.size, 1, none⟩ (.int .i64 z2)).setCell ⟨W.heap.size, 2, none⟩ (.int .i64 z3)).setCell ⟨W.heap.size, 3, none⟩ (.int .i64 z4)).heap.size := by first | (simp; done) | (simp; omega)
    have sQ : PB < ((((w9.setCell ⟨W.heap.size, 0, none⟩ (.int .i64 z1)).setCell ⟨W.heap.size, 1, none⟩ (.int .i64 z2)).setCell ⟨W.heap.size, 2, none⟩ (.int .i64 z3)).setCell ⟨W.heap.size, 3, none⟩ (.int .i64 z4)).heap.size := by first | (simp; done) | (simp; omega)
    clear hHeld
    generalize ((((w9.setCell ⟨W.heap.size, 0, none⟩ (.int .i64 z1)).setCell ⟨W.heap.size, 1, none⟩ (.int .i64 z2)).setCell ⟨W.heap.size, 2, none⟩ (.int .i64 z3)).setCell ⟨W.heap.size, 3, none⟩ (.int .i64 z4)) = V at *
    generalize W.heap.size = XB at *
    have HZ := Lib.hid ((okR_iff _).1 (mulR_ok HR2.out))
    have HD : Below V.heap.size V V := Below.refl _ _
    have K0 := Lib.hid DE
    have J0 : Hid (∀ w', Below V.heap.size V w' → w'.cell? ⟨XB, 0, none⟩ = some (.int .i64 z1) ∧ w'.cell? ⟨XB, 1, none⟩ = some (.int .i64 z2) ∧ w'.cell? ⟨XB, 2, none⟩ = some (.int .i64 z3) ∧ w'.cell? ⟨XB, 3, none⟩ = some (.int .i64 z4) ∧ w'.cell? ⟨PB, 0, none⟩ = some (.int .i64 p) ∧ w'.cell? ⟨PB, 1, none⟩ = some (.int .i64 q)) := Lib.hid (fun w' hb => by
      have e0 := fun o' => hb.cell (p := ⟨XB, o', none⟩) (by simp only; omega)
      have e1 := fun o' => hb.cell (p := ⟨PB, o', none⟩) (by simp only; omega)
      exact ⟨(e0 _).trans c0, (e0 _).trans c1, (e0 _).trans c2, (e0 _).trans c3, (e1 _).trans c4, (e1 _).trans c5⟩)
    have J1 : Hid (∀ w', Below V.heap.size V w' → w'.cell? ⟨w.heap.size + 1 + 1, 0, none⟩ = some (.int .i64 0) ∧ w'.cell? ⟨w.heap.size + 1 + 1, 1, none⟩ = some (.int .i64 0) ∧ w'.cell? ⟨w.heap.size + 1 + 1, 2, none⟩ = some (.int .i64 0) ∧ w'.cell? ⟨w.heap.size + 1 + 1, 3, none⟩ = some (.int .i64 0) ∧ w'.frozen? ⟨w.heap.size + 1 + 1, 0, none⟩ = false ∧ w'.frozen? ⟨w.heap.size + 1 + 1, 1, none⟩ = false ∧ w'.frozen? ⟨w.heap.size + 1 + 1, 2, none⟩ = false ∧ w'.frozen? ⟨w.heap.size + 1 + 1, 3, none⟩ = false) := Lib.hid (fun w' hb => by
      have e0 := fun o' => hb.cell (p := ⟨w.heap.size + 1 + 1, o', none⟩) (by simp only; omega)
      have e1 := fun o' => hb.frozen (p := ⟨w.heap.size + 1 + 1, o', none⟩) (by simp only; omega)
      exact ⟨(e0 _).trans d0, (e0 _).trans d1, (e0 _).trans d2, (e0 _).trans d3, (e1 _).trans d4, (e1 _).trans d5, (e1 _).trans d6, (e1 _).trans d7⟩)
    clear DE c0 c1 c2 c3 c4 c5 d0 d1 d2 d3 d4 d5 d6 d7
    have HD21 : Below V.heap.size V V.drew := HD.drew
    refine wp_region_held_drew (S := fun w' => w'.cell? ⟨XB, 0, none⟩ = some (.int .i64 z1) ∧ w'.cell? ⟨XB, 1, none⟩ = some (.int .i64 z2) ∧ w'.cell? ⟨XB, 2, none⟩ = some (.int .i64 z3) ∧ w'.cell? ⟨XB, 3, none⟩ = some (.int .i64 z4) ∧ w'.cell? ⟨PB, 0, none⟩ = some (.int .i64 p) ∧ w'.cell? ⟨PB, 1, none⟩ = some (.int .i64 q)) (by kernel_rfl) (J0.out _ HD21) (fun hHeld => ?_)
    refine wpAnyH_take (i := 0) (oi := _) (v := ?_) rfl (by kernel_rfl) (by kernel_rfl) (by kernel_rfl) (fun _ _ _ h => h) (Or.inl ⟨by rfl, ?_⟩) (by assumption) ?_
    rotate_left
    · intro w hSw; obtain ⟨_, _, _, _, _, _⟩ := hSw; go_simp; (try with_reducible rfl)
    try change wpAnyH _ _ _ _ _ _ _ (Act.put _ (some 17) _) _
    try simp only [act_all]
    refine wpAnyH_take (i := 1) (oi := _) (v := ?_) rfl (by kernel_rfl) (by kernel_rfl) (by kernel_rfl) (fun _ _ _ h => h) (Or.inl ⟨by rfl, ?_⟩) (by assumption) ?_
    rotate_left
    · intro w hSw; obtain ⟨_, _, _, _, _, _⟩ := hSw; go_simp; (try with_reducible rfl)
    try change wpAnyH _ _ _ _ _ _ _ (Act.put _ (some 18) _) _
    try simp only [act_all]
    refine wpAnyH_take (i := 2) (oi := _) (v := ?_) rfl (by kernel_rfl) (by kernel_rfl) (by kernel_rfl) (fun _ _ _ h => h) (Or.inl ⟨by rfl, ?_⟩) (by assumption) ?_
    rotate_left
    · intro w hSw; obtain ⟨_, _, _, _, _, _⟩ := hSw; go_simp; (try with_reducible rfl)
    try change wpAnyH _ _ _ _ _ _ _ (Act.put _ (some 19) _) _
    try simp only [act_all]
    refine wpAnyH_take (i := 4) (oi := _) (v := ?_) rfl (by kernel_rfl) (by kernel_rfl) (by kernel_rfl) (fun _ _ _ h => h) (Or.inl ⟨by rfl, ?_⟩) (by assumption) ?_
    rotate_left
    · intro w hSw; obtain ⟨_, _, _, _, _, _⟩ := hSw; go_simp; (try with_reducible rfl)
    try change wpAnyH _ _ _ _ _ _ _ (Act.put _ (some 21) _) _
    try simp only [act_all]
    refine wpAnyH_take (i := 5) (oi := _) (v := ?_) rfl (by kernel_rfl) (by kernel_rfl) (by kernel_rfl) (fun _ _ _ h => h) (Or.inl ⟨by rfl, ?_⟩) (by assumption) ?_
    rotate_left
    · intro w hSw; obtain ⟨_, _, _, _, _, _⟩ := hSw; go_simp; (try with_reducible rfl)
    try change wpAnyH _ _ _ _ _ _ _ (Act.put _ (some 22) _) _
    try simp only [act_all]
    refine wpAnyH_take (i := 6) (oi := _) (v := ?_) rfl (by kernel_rfl) (by kernel_rfl) (by kernel_rfl) (fun _ _ _ h => h) (Or.inl ⟨by rfl, ?_⟩) (by assumption) ?_
    rotate_left
    · intro w hSw; obtain ⟨_, _, _, _, _, _⟩ := hSw; go_simp; (try with_reducible rfl)
    try change wpAnyH _ _ _ _ _ _ _ (Act.put _ (some 23) _) _
    try simp only [act_all]
    refine wpAnyH_ready (rs := [3]) (by kernel_rfl) (by simp) ?_
    refine AllReadyH.cons (o := _) rfl (fun K hK => ?_) AllReadyH.nil
    go_simp
    refine (divSpans_any z1 z2 p q _ HZ.out.1 HO.out HP.out).mono ?_
    rintro e w22 ⟨he, hb⟩
    have HD22 : Below V.heap.size V w22 := Below.trans HD21 (hb.mono HD21.size)
    have hz22 := HD22.size
    have DA22 := K0.out.trans (HD22.mono (show w.heap.size ≤ V.heap.size by omega))
    clear hb hHeld
    obtain ⟨r, hr⟩ : ∃ r, (divS ⟨z1, z2⟩ ⟨p, q⟩) = r := ⟨_, rfl⟩
    rw [hr] at he
    have HR3 := Lib.hid hr
    clear hr
    rcases r with ⟨p1, q1⟩ | k
    case' bad =>
      obtain rfl : e = .panicked [{ v := .iface 26 (.int .i64 k), recovered := false }] := he
      refine ⟨rfl, ?_, by go_grown⟩
      rw [← HSP.out]; simp only [divR, cjR, negS, HR0.out, if_neg (Int.not_le.mpr HP.out), HR2.out, HR3.out, Out.binds, IsR]; (try rfl)
    obtain rfl : e = .returned (.agg #[.int .i64 p1, .int .i64 q1]) := he
    refine hK.out _ _ (J0.out _ HD22) (fun hHeld => ?_)
    clear hK K
    try simp only [act_all]
    refine wpAnyH_ready (rs := [7]) (by kernel_rfl) (by simp) ?_
    refine AllReadyH.cons (o := _) rfl (fun K hK => ?_) AllReadyH.nil
    go_simp
    refine (divSpans_any z3 z4 p q _ HZ.out.2 HO.out HP.out).mono ?_
    rintro e w23 ⟨he, hb⟩
    have HD23 : Below V.heap.size V w23 := Below.trans HD22 (hb.mono HD22.size)
    have hz23 := HD23.size
    have DA23 := K0.out.trans (HD23.mono (show w.heap.size ≤ V.heap.size by omega))
    clear hb hHeld
    obtain ⟨r, hr⟩ : ∃ r, (divS ⟨z3, z4⟩ ⟨p, q⟩) = r := ⟨_, rfl⟩
    rw [hr] at he
    have HR4 := Lib.hid hr
    clear hr
    rcases r with ⟨p2, q2⟩ | k
    case' bad =>
      obtain rfl : e = .panicked [{ v := .iface 26 (.int .i64 k), recovered := false }] := he
      refine ⟨rfl, ?_, by go_grown⟩
      rw [← HSP.out]; simp only [divR, cjR, negS, HR0.out, if_neg (Int.not_le.mpr HP.out), HR2.out, HR3.out, HR4.out, Out.binds, IsR]; (try rfl)
    obtain rfl : e = .returned (.agg #[.int .i64 p2, .int .i64 q2]) := he
    refine hK.out _ _ (J0.out _ HD23) (fun hHeld => ?_)
    clear hK K
    try simp only [act_all]
    refine wpAnyH_take (i := 8) (oi := _) (v := ?_) rfl (by kernel_rfl) (by kernel_rfl) (by kernel_rfl) (fun _ _ _ h => h) (Or.inl ⟨by rfl, ?_⟩) (by assumption) ?_
    rotate_left
    · intro w hSw; obtain ⟨_, _, _, _, _, _⟩ := hSw; go_simp; (try with_reducible rfl)
    try change wpAnyH _ _ _ _ _ _ _ (Act.put _ (some 25) _) _
    try simp only [act_all]
    refine wpAnyH_ready (rs := [9]) (by kernel_rfl) (by simp) ?_
    refine AllReadyH.cons (o := _) rfl (fun K hK => ?_) AllReadyH.nil
    obtain ⟨_, _, _, _, _, _⟩ := J0.out _ HD23
    obtain ⟨_, _, _, _, _, _, _, _⟩ := J1.out _ HD23
    go_simp
    refine hK.out _ _ (by refine ⟨?_, ?_, ?_, ?_, ?_, ?_⟩ <;> go_cell) (fun hHeld => ?_)
    clear hK K
    try simp only [act_all]
    refine wpAnyH_done (by kernel_rfl) ?_ _
    go_wp2_with fail
    refine bodyPost_ret (v := .agg #[.int .i64 p1, .int .i64 q1, .int .i64 p2, .int .i64 q2]) (by simp [results, Try.results76, go_sem, *]) rfl ⟨?_, by go_grown⟩
    rw [← HSP.out]; simp only [divR, cjR, negS, HR0.out, if_neg (Int.not_le.mpr HP.out), HR2.out, HR3.out, HR4.out, Out.binds, IsR]; (try rfl)
end Go.Proofs.Ytgbnpnenejgnnaa
