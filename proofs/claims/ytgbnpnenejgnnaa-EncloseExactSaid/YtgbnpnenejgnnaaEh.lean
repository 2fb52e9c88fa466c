import Derived.Test.YtgbnpnenejgnnaaEe
import Derived.Test.YtgbnpnenejgnnaaEb
import Derived.Test.YtgbnpnenejgnnaaEu
import Derived.Test.YtgbnpnenejgnnaaEsp
namespace Go.Proofs.Ytgbnpnenejgnnaa
open Go.RowKit Encl

set_option maxRecDepth 100000 in
set_option maxHeartbeats 4000000 in
theorem squareSpan_any (a b : Int) (w : World) (h1 : okS ⟨a, b⟩ = true) :
    Calls Try.prog 127 #[.agg #[.int .i64 a, .int .i64 b]] w fun e w' => IsS e (sqS ⟨a, b⟩) ∧ Below w.heap.size w w' := by
  have g0 := h1
  rw [okS_iff] at g0
  simp only at g0
  have HG0 := Lib.hid g0
  clear g0
  obtain ⟨SP, hsp⟩ : ∃ SP, (sqS ⟨a, b⟩) = SP := ⟨_, rfl⟩
  have HSP := Lib.hid hsp
  rw [hsp]
  clear hsp
  go_enter Try.func127, Try.ntmps127
  go_wp2_with fail
  have hb0 : Below w.heap.size w ((w.alloc (Obj.cells #[.int .i64 a, .int .i64 b] 23)).alloc (Obj.cells #[.int .i64 0, .int .i64 0] 23)) := by go_grown
  have hs0 : ((w.alloc (Obj.cells #[.int .i64 a, .int .i64 b] 23)).alloc (Obj.cells #[.int .i64 0, .int .i64 0] 23)).cell? ⟨w.heap.size, 0, none⟩ = some (.int .i64 a) ∧ ((w.alloc (Obj.cells #[.int .i64 a, .int .i64 b] 23)).alloc (Obj.cells #[.int .i64 0, .int .i64 0] 23)).cell? ⟨w.heap.size, 1, none⟩ = some (.int .i64 b) := by refine ⟨?_, ?_⟩ <;> go_cell
  have hr0 : ((w.alloc (Obj.cells #[.int .i64 a, .int .i64 b] 23)).alloc (Obj.cells #[.int .i64 0, .int .i64 0] 23)).cell? ⟨w.heap.size + 1, 0, none⟩ = some (.int .i64 0) ∧ ((w.alloc (Obj.cells #[.int .i64 a, .int .i64 b] 23)).alloc (Obj.cells #[.int .i64 0, .int .i64 0] 23)).cell? ⟨w.heap.size + 1, 1, none⟩ = some (.int .i64 0) ∧ ((w.alloc (Obj.cells #[.int .i64 a, .int .i64 b] 23)).alloc (Obj.cells #[.int .i64 0, .int .i64 0] 23)).frozen? ⟨w.heap.size + 1, 0, none⟩ = false ∧ ((w.alloc (Obj.cells #[.int .i64 a, .int .i64 b] 23)).alloc (Obj.cells #[.int .i64 0, .int .i64 0] 23)).frozen? ⟨w.heap.size + 1, 1, none⟩ = false := by refine ⟨?_, ?_, ?_, ?_⟩ <;> go_cell
  have hsz : w.heap.size + 1 < ((w.alloc (Obj.cells #[.int .i64 a, .int .i64 b] 23)).alloc (Obj.cells #[.int .i64 0, .int .i64 0] 23)).heap.size := by simp
  generalize ((w.alloc (Obj.cells #[.int .i64 a, .int .i64 b] 23)).alloc (Obj.cells #[.int .i64 0, .int .i64 0] 23)) = W at *
  have hsz0 : w.heap.size < W.heap.size := by omega
  have V0 : ∀ w', Below W.heap.size W w' → w'.cell? ⟨w.heap.size, 0, none⟩ = some (.int .i64 a) ∧ w'.cell? ⟨w.heap.size, 1, none⟩ = some (.int .i64 b) := fun w' hb => by
    have e0 := fun o' => hb.cell (p := ⟨w.heap.size, o', none⟩) (by simp only; omega)
    rw [e0, e0]
    exact hs0
  have V1 : ∀ w', Below W.heap.size W w' → (w'.cell? ⟨w.heap.size + 1, 0, none⟩ = some (.int .i64 0) ∧ w'.cell? ⟨w.heap.size + 1, 1, none⟩ = some (.int .i64 0) ∧ w'.frozen? ⟨w.heap.size + 1, 0, none⟩ = false ∧ w'.frozen? ⟨w.heap.size + 1, 1, none⟩ = false) := fun w' hb => by
    have e0 := fun o' => hb.cell (p := ⟨w.heap.size + 1, o', none⟩) (by simp only; omega)
    have e1 := fun o' => hb.frozen (p := ⟨w.heap.size + 1, o', none⟩) (by simp only; omega)
    rw [e0, e0, e1, e1]
    exact hr0
  have G0 := Lib.hid V0
  have G1 := Lib.hid V1
  have HB0 := Lib.hid hb0
  clear V0 V1 hb0 hs0 hr0
  have HD : Below W.heap.size W W := Below.refl _ _
  have HD1 : Below W.heap.size W W.drew := HD.drew
  refine wp_region_held_drew (S := fun w' => w'.cell? ⟨w.heap.size, 0, none⟩ = some (.int .i64 a) ∧ w'.cell? ⟨w.heap.size, 1, none⟩ = some (.int .i64 b)) (by kernel_rfl) (G0.out _ HD1) (fun hHeld => ?_)
  refine wpAnyH_take (i := 0) (oi := _) (v := ?_) rfl (by kernel_rfl) (by kernel_rfl) (by kernel_rfl) (fun _ _ _ h => h) (Or.inl ⟨by rfl, ?_⟩) (by assumption) ?_
  rotate_left
  · intro w hSw; obtain ⟨_, _⟩ := hSw; go_simp; (try with_reducible rfl)
  try change wpAnyH _ _ _ _ _ _ _ (Act.put _ (some 4) _) _
  try simp only [act_all]
  refine wpAnyH_take (i := 1) (oi := _) (v := ?_) rfl (by kernel_rfl) (by kernel_rfl) (by kernel_rfl) (fun _ _ _ h => h) (Or.inl ⟨by rfl, ?_⟩) (by assumption) ?_
  rotate_left
  · intro w hSw; obtain ⟨_, _⟩ := hSw; go_simp; (try with_reducible rfl)
  try change wpAnyH _ _ _ _ _ _ _ (Act.put _ (some 5) _) _
  try simp only [act_all]
  refine wpAnyH_take (i := 2) (oi := _) (v := ?_) rfl (by kernel_rfl) (by kernel_rfl) (by kernel_rfl) (fun _ _ _ h => h) (Or.inl ⟨by rfl, ?_⟩) (by assumption) ?_
  rotate_left
  · intro w hSw; obtain ⟨_, _⟩ := hSw; go_simp; (try with_reducible rfl)
  try change wpAnyH _ _ _ _ _ _ _ (Act.put _ (some 6) _) _
  try simp only [act_all]
  refine wpAnyH_take (i := 3) (oi := _) (v := ?_) rfl (by kernel_rfl) (by kernel_rfl) (by kernel_rfl) (fun _ _ _ h => h) (Or.inl ⟨by rfl, ?_⟩) (by assumption) ?_
  rotate_left
  · intro w hSw; obtain ⟨_, _⟩ := hSw; go_simp; (try with_reducible rfl)
  try change wpAnyH _ _ _ _ _ _ _ (Act.put _ (some 7) _) _
  try simp only [act_all]
  refine wpAnyH_take (i := 5) (oi := _) (v := ?_) rfl (by kernel_rfl) (by kernel_rfl) (by kernel_rfl) (fun _ _ _ h => h) (Or.inl ⟨by rfl, ?_⟩) (by assumption) ?_
  rotate_left
  · intro w hSw; obtain ⟨_, _⟩ := hSw; go_simp; (try with_reducible rfl)
  try change wpAnyH _ _ _ _ _ _ _ (Act.put _ (some 9) _) _
  try simp only [act_all]
  refine wpAnyH_take (i := 6) (oi := _) (v := ?_) rfl (by kernel_rfl) (by kernel_rfl) (by kernel_rfl) (fun _ _ _ h => h) (Or.inl ⟨by rfl, ?_⟩) (by assumption) ?_
  rotate_left
  · intro w hSw; obtain ⟨_, _⟩ := hSw; go_simp; (try with_reducible rfl)
  try change wpAnyH _ _ _ _ _ _ _ (Act.put _ (some 10) _) _
  try simp only [act_all]
  refine wpAnyH_take (i := 7) (oi := _) (v := ?_) rfl (by kernel_rfl) (by kernel_rfl) (by kernel_rfl) (fun _ _ _ h => h) (Or.inl ⟨by rfl, ?_⟩) (by assumption) ?_
  rotate_left
  · intro w hSw; obtain ⟨_, _⟩ := hSw; go_simp; (try with_reducible rfl)
  try change wpAnyH _ _ _ _ _ _ _ (Act.put _ (some 11) _) _
  try simp only [act_all]
  refine wpAnyH_take (i := 8) (oi := _) (v := ?_) rfl (by kernel_rfl) (by kernel_rfl) (by kernel_rfl) (fun _ _ _ h => h) (Or.inl ⟨by rfl, ?_⟩) (by assumption) ?_
  rotate_left
  · intro w hSw; obtain ⟨_, _⟩ := hSw; go_simp; (try with_reducible rfl)
  try change wpAnyH _ _ _ _ _ _ _ (Act.put _ (some 12) _) _
  try simp only [act_all]
  refine wpAnyH_ready (rs := [4, 12]) (by kernel_rfl) (by simp) ?_
  refine AllReadyH.cons (o := _) rfl (fun K hK => ?_) ?_
  · go_simp
    refine (scaled_any a a 1073741824 _ (by have := HG0.out; omega) (by have := HG0.out; omega) (by have := HG0.out; omega) (by have := HG0.out; omega) (by have := HG0.out; omega) (by have := HG0.out; omega)).mono ?_
    rintro e w2 ⟨he, hb⟩
    have HD2 : Below W.heap.size W w2 := Below.trans HD1 (hb.mono HD1.size)
    have hz2 := HD2.size
    have DA2 := HB0.out.trans (HD2.mono (show w.heap.size ≤ W.heap.size by omega))
    clear hb hHeld
    obtain ⟨r, hr⟩ : ∃ r, (scS a a 1073741824) = r := ⟨_, rfl⟩
    rw [hr] at he
    have HR0 := Lib.hid hr
    clear hr
    rcases r with ⟨p1, q1⟩ | k
    case' bad =>
      obtain rfl : e = .panicked [{ v := .iface 26 (.int .i64 k), recovered := false }] := he
      refine ⟨rfl, ?_, by go_grown⟩
      rw [← HSP.out]; simp only [sqS, HR0.out, Out.binds, IsS]; (try rfl)
    obtain rfl : e = .returned (.agg #[.int .i64 p1, .int .i64 q1]) := he
    refine hK.out _ _ (G0.out _ HD2) (fun hHeld => ?_)
    clear hK K
    try simp only [act_all]
    refine wpAnyH_ready (rs := [9, 12]) (by kernel_rfl) (by simp) ?_
    refine AllReadyH.cons (o := _) rfl (fun K hK => ?_) ?_
    · go_simp
      refine (scaled_any b b 1073741824 _ (by have := HG0.out; omega) (by have := HG0.out; omega) (by have := HG0.out; omega) (by have := HG0.out; omega) (by have := HG0.out; omega) (by have := HG0.out; omega)).mono ?_
      rintro e w3 ⟨he, hb⟩
      have HD3 : Below W.heap.size W w3 := Below.trans HD2 (hb.mono HD2.size)
      have hz3 := HD3.size
      have DA3 := HB0.out.trans (HD3.mono (show w.heap.size ≤ W.heap.size by omega))
      clear hb hHeld
      obtain ⟨r, hr⟩ : ∃ r, (scS b b 1073741824) = r := ⟨_, rfl⟩
      rw [hr] at he
      have HR1 := Lib.hid hr
      clear hr
      rcases r with ⟨p2, q2⟩ | k
      case' bad =>
        obtain rfl : e = .panicked [{ v := .iface 26 (.int .i64 k), recovered := false }] := he
        refine ⟨rfl, ?_, by go_grown⟩
        rw [← HSP.out]; simp only [sqS, HR0.out, HR1.out, Out.binds, IsS]; (try rfl)
      obtain rfl : e = .returned (.agg #[.int .i64 p2, .int .i64 q2]) := he
      refine hK.out _ _ (G0.out _ HD3) (fun hHeld => ?_)
      clear hK K
      try simp only [act_all]
      refine wpAnyH_ready (rs := [10, 12]) (by kernel_rfl) (by simp) ?_
      refine AllReadyH.cons (o := _) rfl (fun K hK => ?_) ?_
      · have HD4 : Below W.heap.size W (w3.alloc (Obj.cells #[.int .i64 p2, .int .i64 q2] 23)) := bal HD3 _
        go_simp
        refine hK.out _ _ (G0.out _ HD4) (fun hHeld => ?_)
        clear hK K
        try simp only [act_all]
        refine wpAnyH_ready (rs := [11, 12]) (by kernel_rfl) (by simp) ?_
        refine AllReadyH.cons (o := _) rfl (fun K hK => ?_) ?_
        · go_simp
          refine (hull_any p1 q1 _ 1 1 (fun _ => ⟨p2, q2⟩) _ (by omega) (Sps.of1 (by go_cell) (by go_cell))).mono ?_
          rintro e w5 ⟨he, hb⟩
          have HD5 : Below W.heap.size W w5 := Below.trans HD4 (hb.mono HD4.size)
          have hz5 := HD5.size
          have DA5 := HB0.out.trans (HD5.mono (show w.heap.size ≤ W.heap.size by omega))
          clear hb hHeld
          obtain ⟨r, hr⟩ : ∃ r, (hulTo ⟨p1, q1⟩ (fun _ => ⟨p2, q2⟩) 1) = r := ⟨_, rfl⟩
          rw [hr] at he
          have HR2 := Lib.hid hr
          clear hr
          obtain ⟨P, Q⟩ := r
          obtain rfl : e = .returned (.agg #[.int .i64 P, .int .i64 Q]) := he
          refine hK.out _ _ (G0.out _ HD5) (fun hHeld => ?_)
          clear hK K
          try simp only [act_all]
          refine wpAnyH_ready (rs := [12]) (by kernel_rfl) (by simp) ?_
          refine AllReadyH.cons (o := _) rfl (fun K hK => ?_) AllReadyH.nil
          have HD6 : Below W.heap.size W (w5.alloc (Obj.cells #[.int .i64 0, .int .i64 0] 23)) := bal HD5 _
          go_simp
          refine hK.out _ _ (G0.out _ HD6) (fun hHeld => ?_)
          clear hK K
          try simp only [act_all]
          refine wpAnyH_ready (rs := [13]) (by kernel_rfl) (by simp) ?_
          refine AllReadyH.cons (o := _) rfl (fun K hK => ?_) AllReadyH.nil
          obtain ⟨_, _⟩ := G0.out _ HD5
          obtain ⟨_, _, _, _⟩ := G1.out _ HD5
          have nb11 : w.heap.size < w5.heap.size := by omega
          have nx11 : ¬ w5.heap.size = w.heap.size := by omega
          have nb15 : w.heap.size + 1 < w5.heap.size := by omega
          have nx15 : ¬ w5.heap.size = w.heap.size + 1 := by omega
          go_simp
          refine hK.out _ _ (by refine ⟨?_, ?_⟩ <;> go_cell) (fun hHeld => ?_)
          clear hK K
          try simp only [act_all]
          refine wpAnyH_done (by kernel_rfl) ?_ _
          by_cases k1 : a ≤ 0
          · by_cases k2 : 0 ≤ b
            · have HZ : Hid (zlo ⟨a, b⟩ ⟨P, Q⟩ = ⟨0, Q⟩) := Lib.hid (by unfold zlo; rw [if_pos ⟨k1, k2⟩])
              go_wp2_with fail
              refine bodyPost_ret (v := .agg #[.int .i64 0, .int .i64 Q]) (by simp [results, Try.results127, go_sem, *]) rfl ⟨?_, by go_grown⟩
              rw [← HSP.out]; simp only [sqS, HR0.out, HR1.out, Out.binds, IsS]
              have := HR2.out
              simp only [hulTo] at this
              rw [this, HZ.out]
              rfl
            · have k2' : b < 0 := by omega
              have HZ : Hid (zlo ⟨a, b⟩ ⟨P, Q⟩ = ⟨P, Q⟩) := Lib.hid (by unfold zlo; rw [if_neg (by simp only; omega)])
              go_wp2_with fail
              refine bodyPost_ret (v := .agg #[.int .i64 P, .int .i64 Q]) (by simp [results, Try.results127, go_sem, *]) rfl ⟨?_, by go_grown⟩
              rw [← HSP.out]; simp only [sqS, HR0.out, HR1.out, Out.binds, IsS]
              have := HR2.out
              simp only [hulTo] at this
              rw [this, HZ.out]
              rfl
          · have k1' : 0 < a := by omega
            have HZ : Hid (zlo ⟨a, b⟩ ⟨P, Q⟩ = ⟨P, Q⟩) := Lib.hid (by unfold zlo; rw [if_neg (by simp only; omega)])
            go_wp2_with fail
            refine bodyPost_ret (v := .agg #[.int .i64 P, .int .i64 Q]) (by simp [results, Try.results127, go_sem, *]) rfl ⟨?_, by go_grown⟩
            rw [← HSP.out]; simp only [sqS, HR0.out, HR1.out, Out.binds, IsS]
            have := HR2.out
            simp only [hulTo] at this
            rw [this, HZ.out]
            rfl
        refine AllReadyH.cons (o := _) rfl (fun K hK => ?_) AllReadyH.nil
        have HD7 : Below W.heap.size W ((w3.alloc (Obj.cells #[.int .i64 p2, .int .i64 q2] 23)).alloc (Obj.cells #[.int .i64 0, .int .i64 0] 23)) := bal HD4 _
        go_simp
        refine hK.out _ _ (G0.out _ HD7) (fun hHeld => ?_)
        clear hK K
        try simp only [act_all]
        refine wpAnyH_ready (rs := [11]) (by kernel_rfl) (by simp) ?_
        refine AllReadyH.cons (o := _) rfl (fun K hK => ?_) AllReadyH.nil
        go_simp
        refine (hull_any p1 q1 _ 1 1 (fun _ => ⟨p2, q2⟩) _ (by omega) (Sps.of1 (by go_cell) (by go_cell))).mono ?_
        rintro e w8 ⟨he, hb⟩
        have HD8 : Below W.heap.size W w8 := Below.trans HD7 (hb.mono HD7.size)
        have hz8 := HD8.size
        have DA8 := HB0.out.trans (HD8.mono (show w.heap.size ≤ W.heap.size by omega))
        have t8_0_0 := (hb.cell (p := ⟨w3.heap.size + 1, 0, none⟩) (by first | omega | (simp; done) | (simp; omega))).trans (by go_cell : _ = some (.int .i64 0))
        have z8_0_0 := (hb.frozen (p := ⟨w3.heap.size + 1, 0, none⟩) (by first | omega | (simp; done) | (simp; omega))).trans (by go_cell : _ = false)
        have t8_0_1 := (hb.cell (p := ⟨w3.heap.size + 1, 1, none⟩) (by first | omega | (simp; done) | (simp; omega))).trans (by go_cell : _ = some (.int .i64 0))
        have z8_0_1 := (hb.frozen (p := ⟨w3.heap.size + 1, 1, none⟩) (by first | omega | (simp; done) | (simp; omega))).trans (by go_cell : _ = false)
        have l8_0 : w3.heap.size + 1 < w8.heap.size := by have hs := hb.size; (try simp at hs); omega
        clear hb hHeld
        obtain ⟨r, hr⟩ : ∃ r, (hulTo ⟨p1, q1⟩ (fun _ => ⟨p2, q2⟩) 1) = r := ⟨_, rfl⟩
        rw [hr] at he
        have HR2 := Lib.hid hr
        clear hr
        obtain ⟨P, Q⟩ := r
        obtain rfl : e = .returned (.agg #[.int .i64 P, .int .i64 Q]) := he
        refine hK.out _ _ (G0.out _ HD8) (fun hHeld => ?_)
        clear hK K
        try simp only [act_all]
        refine wpAnyH_ready (rs := [13]) (by kernel_rfl) (by simp) ?_
        refine AllReadyH.cons (o := _) rfl (fun K hK => ?_) AllReadyH.nil
        obtain ⟨_, _⟩ := G0.out _ HD8
        obtain ⟨_, _, _, _⟩ := G1.out _ HD8
        have nb11 : w.heap.size < w8.heap.size := by omega
        have nx11 : ¬ w3.heap.size + 1 = w.heap.size := by omega
        have nb15 : w.heap.size + 1 < w8.heap.size := by omega
        have nx15 : ¬ w3.heap.size + 1 = w.heap.size + 1 := by omega
        go_simp
        refine hK.out _ _ (by refine ⟨?_, ?_⟩ <;> go_cell) (fun hHeld => ?_)
        clear hK K
        try simp only [act_all]
        refine wpAnyH_done (by kernel_rfl) ?_ _
        by_cases k1 : a ≤ 0
        · by_cases k2 : 0 ≤ b
          · have HZ : Hid (zlo ⟨a, b⟩ ⟨P, Q⟩ = ⟨0, Q⟩) := Lib.hid (by unfold zlo; rw [if_pos ⟨k1, k2⟩])
            go_wp2_with fail
            refine bodyPost_ret (v := .agg #[.int .i64 0, .int .i64 Q]) (by simp [results, Try.results127, go_sem, *]) rfl ⟨?_, by go_grown⟩
            rw [← HSP.out]; simp only [sqS, HR0.out, HR1.out, Out.binds, IsS]
            have := HR2.out
            simp only [hulTo] at this
            rw [this, HZ.out]
            rfl
          · have k2' : b < 0 := by omega
            have HZ : Hid (zlo ⟨a, b⟩ ⟨P, Q⟩ = ⟨P, Q⟩) := Lib.hid (by unfold zlo; rw [if_neg (by simp only; omega)])
            go_wp2_with fail
            refine bodyPost_ret (v := .agg #[.int .i64 P, .int .i64 Q]) (by simp [results, Try.results127, go_sem, *]) rfl ⟨?_, by go_grown⟩
            rw [← HSP.out]; simp only [sqS, HR0.out, HR1.out, Out.binds, IsS]
            have := HR2.out
            simp only [hulTo] at this
            rw [this, HZ.out]
            rfl
        · have k1' : 0 < a := by omega
          have HZ : Hid (zlo ⟨a, b⟩ ⟨P, Q⟩ = ⟨P, Q⟩) := Lib.hid (by unfold zlo; rw [if_neg (by simp only; omega)])
          go_wp2_with fail
          refine bodyPost_ret (v := .agg #[.int .i64 P, .int .i64 Q]) (by simp [results, Try.results127, go_sem, *]) rfl ⟨?_, by go_grown⟩
          rw [← HSP.out]; simp only [sqS, HR0.out, HR1.out, Out.binds, IsS]
          have := HR2.out
          simp only [hulTo] at this
          rw [this, HZ.out]
          rfl
      refine AllReadyH.cons (o := _) rfl (fun K hK => ?_) AllReadyH.nil
      have HD9 : Below W.heap.size W (w3.alloc (Obj.cells #[.int .i64 0, .int .i64 0] 23)) := bal HD3 _
      go_simp
      refine hK.out _ _ (G0.out _ HD9) (fun hHeld => ?_)
      clear hK K
      try simp only [act_all]
      refine wpAnyH_ready (rs := [10]) (by kernel_rfl) (by simp) ?_
      refine AllReadyH.cons (o := _) rfl (fun K hK => ?_) AllReadyH.nil
      have HD10 : Below W.heap.size W ((w3.alloc (Obj.cells #[.int .i64 0, .int .i64 0] 23)).alloc (Obj.cells #[.int .i64 p2, .int .i64 q2] 23)) := bal HD9 _
      go_simp
      refine hK.out _ _ (G0.out _ HD10) (fun hHeld => ?_)
      clear hK K
      try simp only [act_all]
      refine wpAnyH_ready (rs := [11]) (by kernel_rfl) (by simp) ?_
      refine AllReadyH.cons (o := _) rfl (fun K hK => ?_) AllReadyH.nil
      go_simp
      refine (hull_any p1 q1 _ 1 1 (fun _ => ⟨p2, q2⟩) _ (by omega) (Sps.of1 (by go_cell) (by go_cell))).mono ?_
      rintro e w11 ⟨he, hb⟩
      have HD11 : Below W.heap.size W w11 := Below.trans HD10 (hb.mono HD10.size)
      have hz11 := HD11.size
      have DA11 := HB0.out.trans (HD11.mono (show w.heap.size ≤ W.heap.size by omega))
      have t11_0_0 := (hb.cell (p := ⟨w3.heap.size, 0, none⟩) (by first | omega | (simp; done) | (simp; omega))).trans (by go_cell : _ = some (.int .i64 0))
      have z11_0_0 := (hb.frozen (p := ⟨w3.heap.size, 0, none⟩) (by first | omega | (simp; done) | (simp; omega))).trans (by go_cell : _ = false)
      have t11_0_1 := (hb.cell (p := ⟨w3.heap.size, 1, none⟩) (by first | omega | (simp; done) | (simp; omega))).trans (by go_cell : _ = some (.int .i64 0))
      have z11_0_1 := (hb.frozen (p := ⟨w3.heap.size, 1, none⟩) (by first | omega | (simp; done) | (simp; omega))).trans (by go_cell : _ = false)
      have l11_0 : w3.heap.size < w11.heap.size := by have hs := hb.size; (try simp at hs); omega
      clear hb hHeld
      obtain ⟨r, hr⟩ : ∃ r, (hulTo ⟨p1, q1⟩ (fun _ => ⟨p2, q2⟩) 1) = r := ⟨_, rfl⟩
      rw [hr] at he
      have HR2 := Lib.hid hr
      clear hr
      obtain ⟨P, Q⟩ := r
      obtain rfl : e = .returned (.agg #[.int .i64 P, .int .i64 Q]) := he
      refine hK.out _ _ (G0.out _ HD11) (fun hHeld => ?_)
      clear hK K
      try simp only [act_all]
      refine wpAnyH_ready (rs := [13]) (by kernel_rfl) (by simp) ?_
      refine AllReadyH.cons (o := _) rfl (fun K hK => ?_) AllReadyH.nil
      obtain ⟨_, _⟩ := G0.out _ HD11
      obtain ⟨_, _, _, _⟩ := G1.out _ HD11
      have nb11 : w.heap.size < w11.heap.size := by omega
      have nx11 : ¬ w3.heap.size = w.heap.size := by omega
      have nb15 : w.heap.size + 1 < w11.heap.size := by omega
      have nx15 : ¬ w3.heap.size = w.heap.size + 1 := by omega
      go_simp
      refine hK.out _ _ (by refine ⟨?_, ?_⟩ <;> go_cell) (fun hHeld => ?_)
      clear hK K
      try simp only [act_all]
      refine wpAnyH_done (by kernel_rfl) ?_ _
      by_cases k1 : a ≤ 0
      · by_cases k2 : 0 ≤ b
        · have HZ : Hid (zlo ⟨a, b⟩ ⟨P, Q⟩ = ⟨0, Q⟩) := Lib.hid (by unfold zlo; rw [if_pos ⟨k1, k2⟩])
          go_wp2_with fail
          refine bodyPost_ret (v := .agg #[.int .i64 0, .int .i64 Q]) (by simp [results, Try.results127, go_sem, *]) rfl ⟨?_, by go_grown⟩
          rw [← HSP.out]; simp only [sqS, HR0.out, HR1.out, Out.binds, IsS]
          have := HR2.out
          simp only [hulTo] at this
          rw [this, HZ.out]
          rfl
        · have k2' : b < 0 := by omega
          have HZ : Hid (zlo ⟨a, b⟩ ⟨P, Q⟩ = ⟨P, Q⟩) := Lib.hid (by unfold zlo; rw [if_neg (by simp only; omega)])
          go_wp2_with fail
          refine bodyPost_ret (v := .agg #[.int .i64 P, .int .i64 Q]) (by simp [results, Try.results127, go_sem, *]) rfl ⟨?_, by go_grown⟩
          rw [← HSP.out]; simp only [sqS, HR0.out, HR1.out, Out.binds, IsS]
          have := HR2.out
          simp only [hulTo] at this
          rw [this, HZ.out]
          rfl
      · have k1' : 0 < a := by omega
        have HZ : Hid (zlo ⟨a, b⟩ ⟨P, Q⟩ = ⟨P, Q⟩) := Lib.hid (by unfold zlo; rw [if_neg (by simp only; omega)])
        go_wp2_with fail
        refine bodyPost_ret (v := .agg #[.int .i64 P, .int .i64 Q]) (by simp [results, Try.results127, go_sem, *]) rfl ⟨?_, by go_grown⟩
        rw [← HSP.out]; simp only [sqS, HR0.out, HR1.out, Out.binds, IsS]
        have := HR2.out
        simp only [hulTo] at this
        rw [this, HZ.out]
        rfl
    refine AllReadyH.cons (o := _) rfl (fun K hK => ?_) AllReadyH.nil
    have HD12 : Below W.heap.size W (w2.alloc (Obj.cells #[.int .i64 0, .int .i64 0] 23)) := bal HD2 _
    go_simp
    refine hK.out _ _ (G0.out _ HD12) (fun hHeld => ?_)
    clear hK K
    try simp only [act_all]
    refine wpAnyH_ready (rs := [9]) (by kernel_rfl) (by simp) ?_
    refine AllReadyH.cons (o := _) rfl (fun K hK => ?_) AllReadyH.nil
    go_simp
    refine (scaled_any b b 1073741824 _ (by have := HG0.out; omega) (by have := HG0.out; omega) (by have := HG0.out; omega) (by have := HG0.out; omega) (by have := HG0.out; omega) (by have := HG0.out; omega)).mono ?_
    rintro e w13 ⟨he, hb⟩
    have HD13 : Below W.heap.size W w13 := Below.trans HD12 (hb.mono HD12.size)
    have hz13 := HD13.size
    have DA13 := HB0.out.trans (HD13.mono (show w.heap.size ≤ W.heap.size by omega))
    have t13_0_0 := (hb.cell (p := ⟨w2.heap.size, 0, none⟩) (by first | omega | (simp; done) | (simp; omega))).trans (by go_cell : _ = some (.int .i64 0))
    have z13_0_0 := (hb.frozen (p := ⟨w2.heap.size, 0, none⟩) (by first | omega | (simp; done) | (simp; omega))).trans (by go_cell : _ = false)
    have t13_0_1 := (hb.cell (p := ⟨w2.heap.size, 1, none⟩) (by first | omega | (simp; done) | (simp; omega))).trans (by go_cell : _ = some (.int .i64 0))
    have z13_0_1 := (hb.frozen (p := ⟨w2.heap.size, 1, none⟩) (by first | omega | (simp; done) | (simp; omega))).trans (by go_cell : _ = false)
    have l13_0 : w2.heap.size < w13.heap.size := by have hs := hb.size; (try simp at hs); omega
    clear hb hHeld
    obtain ⟨r, hr⟩ : ∃ r, (scS b b 1073741824) = r := ⟨_, rfl⟩
    rw [hr] at he
    have HR1 := Lib.hid hr
    clear hr
    rcases r with ⟨p2, q2⟩ | k
    case' bad =>
      obtain rfl : e = .panicked [{ v := .iface 26 (.int .i64 k), recovered := false }] := he
      refine ⟨rfl, ?_, by go_grown⟩
      rw [← HSP.out]; simp only [sqS, HR0.out, HR1.out, Out.binds, IsS]; (try rfl)
    obtain rfl : e = .returned (.agg #[.int .i64 p2, .int .i64 q2]) := he
    refine hK.out _ _ (G0.out _ HD13) (fun hHeld => ?_)
    clear hK K
    try simp only [act_all]
    refine wpAnyH_ready (rs := [10]) (by kernel_rfl) (by simp) ?_
    refine AllReadyH.cons (o := _) rfl (fun K hK => ?_) AllReadyH.nil
    have HD14 : Below W.heap.size W (w13.alloc (Obj.cells #[.int .i64 p2, .int .i64 q2] 23)) := bal HD13 _
    go_simp
    refine hK.out _ _ (G0.out _ HD14) (fun hHeld => ?_)
    clear hK K
    try simp only [act_all]
    refine wpAnyH_ready (rs := [11]) (by kernel_rfl) (by simp) ?_
    refine AllReadyH.cons (o := _) rfl (fun K hK => ?_) AllReadyH.nil
    go_simp
    refine (hull_any p1 q1 _ 1 1 (fun _ => ⟨p2, q2⟩) _ (by omega) (Sps.of1 (by go_cell) (by go_cell))).mono ?_
    rintro e w15 ⟨he, hb⟩
    have HD15 : Below W.heap.size W w15 := Below.trans HD14 (hb.mono HD14.size)
    have hz15 := HD15.size
    have DA15 := HB0.out.trans (HD15.mono (show w.heap.size ≤ W.heap.size by omega))
    have t15_0_0 := (hb.cell (p := ⟨w2.heap.size, 0, none⟩) (by first | omega | (simp; done) | (simp; omega))).trans (by go_cell : _ = some (.int .i64 0))
    have z15_0_0 := (hb.frozen (p := ⟨w2.heap.size, 0, none⟩) (by first | omega | (simp; done) | (simp; omega))).trans (by go_cell : _ = false)
    have t15_0_1 := (hb.cell (p := ⟨w2.heap.size, 1, none⟩) (by first | omega | (simp; done) | (simp; omega))).trans (by go_cell : _ = some (.int .i64 0))
    have z15_0_1 := (hb.frozen (p := ⟨w2.heap.size, 1, none⟩) (by first | omega | (simp; done) | (simp; omega))).trans (by go_cell : _ = false)
    have l15_0 : w2.heap.size < w15.heap.size := by have hs := hb.size; (try simp at hs); omega
    clear hb hHeld
    obtain ⟨r, hr⟩ : ∃ r, (hulTo ⟨p1, q1⟩ (fun _ => ⟨p2, q2⟩) 1) = r := ⟨_, rfl⟩
    rw [hr] at he
    have HR2 := Lib.hid hr
    clear hr
    obtain ⟨P, Q⟩ := r
    obtain rfl : e = .returned (.agg #[.int .i64 P, .int .i64 Q]) := he
    refine hK.out _ _ (G0.out _ HD15) (fun hHeld => ?_)
    clear hK K
    try simp only [act_all]
    refine wpAnyH_ready (rs := [13]) (by kernel_rfl) (by simp) ?_
    refine AllReadyH.cons (o := _) rfl (fun K hK => ?_) AllReadyH.nil
    obtain ⟨_, _⟩ := G0.out _ HD15
    obtain ⟨_, _, _, _⟩ := G1.out _ HD15
    have nb11 : w.heap.size < w15.heap.size := by omega
    have nx11 : ¬ w2.heap.size = w.heap.size := by omega
    have nb15 : w.heap.size + 1 < w15.heap.size := by omega
    have nx15 : ¬ w2.heap.size = w.heap.size + 1 := by omega
    go_simp
    refine hK.out _ _ (by refine ⟨?_, ?_⟩ <;> go_cell) (fun hHeld => ?_)
    clear hK K
    try simp only [act_all]
    refine wpAnyH_done (by kernel_rfl) ?_ _
    by_cases k1 : a ≤ 0
    · by_cases k2 : 0 ≤ b
      · have HZ : Hid (zlo ⟨a, b⟩ ⟨P, Q⟩ = ⟨0, Q⟩) := Lib.hid (by unfold zlo; rw [if_pos ⟨k1, k2⟩])
        go_wp2_with fail
        refine bodyPost_ret (v := .agg #[.int .i64 0, .int .i64 Q]) (by simp [results, Try.results127, go_sem, *]) rfl ⟨?_, by go_grown⟩
        rw [← HSP.out]; simp only [sqS, HR0.out, HR1.out, Out.binds, IsS]
        have := HR2.out
        simp only [hulTo] at this
        rw [this, HZ.out]
        rfl
      · have k2' : b < 0 := by omega
        have HZ : Hid (zlo ⟨a, b⟩ ⟨P, Q⟩ = ⟨P, Q⟩) := Lib.hid (by unfold zlo; rw [if_neg (by simp only; omega)])
        go_wp2_with fail
        refine bodyPost_ret (v := .agg #[.int .i64 P, .int .i64 Q]) (by simp [results, Try.results127, go_sem, *]) rfl ⟨?_, by go_grown⟩
        rw [← HSP.out]; simp only [sqS, HR0.out, HR1.out, Out.binds, IsS]
        have := HR2.out
        simp only [hulTo] at this
        rw [this, HZ.out]
        rfl
    · have k1' : 0 < a := by omega
      have HZ : Hid (zlo ⟨a, b⟩ ⟨P, Q⟩ = ⟨P, Q⟩) := Lib.hid (by unfold zlo; rw [if_neg (by simp only; omega)])
      go_wp2_with fail
      refine bodyPost_ret (v := .agg #[.int .i64 P, .int .i64 Q]) (by simp [results, Try.results127, go_sem, *]) rfl ⟨?_, by go_grown⟩
      rw [← HSP.out]; simp only [sqS, HR0.out, HR1.out, Out.binds, IsS]
      have := HR2.out
      simp only [hulTo] at this
      rw [this, HZ.out]
      rfl
  refine AllReadyH.cons (o := _) rfl (fun K hK => ?_) AllReadyH.nil
  have HD16 : Below W.heap.size W (W.drew.alloc (Obj.cells #[.int .i64 0, .int .i64 0] 23)) := bal HD1 _
  go_simp
  refine hK.out _ _ (G0.out _ HD16) (fun hHeld => ?_)
  clear hK K
  try simp only [act_all]
  refine wpAnyH_ready (rs := [4]) (by kernel_rfl) (by simp) ?_
  refine AllReadyH.cons (o := _) rfl (fun K hK => ?_) AllReadyH.nil
  go_simp
  refine (scaled_any a a 1073741824 _ (by have := HG0.out; omega) (by have := HG0.out; omega) (by have := HG0.out; omega) (by have := HG0.out; omega) (by have := HG0.out; omega) (by have := HG0.out; omega)).mono ?_
  rintro e w17 ⟨he, hb⟩
  have HD17 : Below W.heap.size W w17 := Below.trans HD16 (hb.mono HD16.size)
  have hz17 := HD17.size
  have DA17 := HB0.out.trans (HD17.mono (show w.heap.size ≤ W.heap.size by omega))
  have t17_0_0 := (hb.cell (p := ⟨W.heap.size, 0, none⟩) (by first | omega | (simp; done) | (simp; omega))).trans (by go_cell : _ = some (.int .i64 0))
  have z17_0_0 := (hb.frozen (p := ⟨W.heap.size, 0, none⟩) (by first | omega | (simp; done) | (simp; omega))).trans (by go_cell : _ = false)
  have t17_0_1 := (hb.cell (p := ⟨W.heap.size, 1, none⟩) (by first | omega | (simp; done) | (simp; omega))).trans (by go_cell : _ = some (.int .i64 0))
  have z17_0_1 := (hb.frozen (p := ⟨W.heap.size, 1, none⟩) (by first | omega | (simp; done) | (simp; omega))).trans (by go_cell : _ = false)
  have l17_0 : W.heap.size < w17.heap.size := by have hs := hb.size; (try simp at hs); omega
  clear hb hHeld
  obtain ⟨r, hr⟩ : ∃ r, (scS a a 1073741824) = r := ⟨_, rfl⟩
  rw [hr] at he
  have HR0 := Lib.hid hr
  clear hr
  rcases r with ⟨p1, q1⟩ | k
  case' bad =>
    obtain rfl : e = .panicked [{ v := .iface 26 (.int .i64 k), recovered := false }] := he
    refine ⟨rfl, ?_, by go_grown⟩
    rw [← HSP.out]; simp only [sqS, HR0.out, Out.binds, IsS]; (try rfl)
  obtain rfl : e = .returned (.agg #[.int .i64 p1, .int .i64 q1]) := he
  refine hK.out _ _ (G0.out _ HD17) (fun hHeld => ?_)
  clear hK K
  try simp only [act_all]
  refine wpAnyH_ready (rs := [9]) (by kernel_rfl) (by simp) ?_
  refine AllReadyH.cons (o := _) rfl (fun K hK => ?_) AllReadyH.nil
  go_simp
  refine (scaled_any b b 1073741824 _ (by have := HG0.out; omega) (by have := HG0.out; omega) (by have := HG0.out; omega) (by have := HG0.out; omega) (by have := HG0.out; omega) (by have := HG0.out; omega)).mono ?_
  rintro e w18 ⟨he, hb⟩
  have HD18 : Below W.heap.size W w18 := Below.trans HD17 (hb.mono HD17.size)
  have hz18 := HD18.size
  have DA18 := HB0.out.trans (HD18.mono (show w.heap.size ≤ W.heap.size by omega))
  have t18_0_0 := (hb.cell (p := ⟨W.heap.size, 0, none⟩) (by first | omega | (simp; done) | (simp; omega))).trans (by go_cell : _ = some (.int .i64 0))
  have z18_0_0 := (hb.frozen (p := ⟨W.heap.size, 0, none⟩) (by first | omega | (simp; done) | (simp; omega))).trans (by go_cell : _ = false)
  have t18_0_1 := (hb.cell (p := ⟨W.heap.size, 1, none⟩) (by first | omega | (simp; done) | (simp; omega))).trans (by go_cell : _ = some (.int .i64 0))
  have z18_0_1 := (hb.frozen (p := ⟨W.heap.size, 1, none⟩) (by first | omega | (simp; done) | (simp; omega))).trans (by go_cell : _ = false)
  have l18_0 : W.heap.size < w18.heap.size := by have hs := hb.size; (try simp at hs); omega
  clear hb hHeld
  obtain ⟨r, hr⟩ : ∃ r, (scS b b 1073741824) = r := ⟨_, rfl⟩
  rw [hr] at he
  have HR1 := Lib.hid hr
  clear hr
  rcases r with ⟨p2, q2⟩ | k
  case' bad =>
    obtain rfl : e = .panicked [{ v := .iface 26 (.int .i64 k), recovered := false }] := he
    refine ⟨rfl, ?_, by go_grown⟩
    rw [← HSP.out]; simp only [sqS, HR0.out, HR1.out, Out.binds, IsS]; (try rfl)
  obtain rfl : e = .returned (.agg #[.int .i64 p2, .int .i64 q2]) := he
  refine hK.out _ _ (G0.out _ HD18) (fun hHeld => ?_)
  clear hK K
  try simp only [act_all]
  refine wpAnyH_ready (rs := [10]) (by kernel_rfl) (by simp) ?_
  refine AllReadyH.cons (o := _) rfl (fun K hK => ?_) AllReadyH.nil
  have HD19 : Below W.heap.size W (w18.alloc (Obj.cells #[.int .i64 p2, .int .i64 q2] 23)) := bal HD18 _
  go_simp
  refine hK.out _ _ (G0.out _ HD19) (fun hHeld => ?_)
  clear hK K
  try simp only [act_all]
  refine wpAnyH_ready (rs := [11]) (by kernel_rfl) (by simp) ?_
  refine AllReadyH.cons (o := _) rfl (fun K hK => ?_) AllReadyH.nil
  go_simp
  refine (hull_any p1 q1 _ 1 1 (fun _ => ⟨p2, q2⟩) _ (by omega) (Sps.of1 (by go_cell) (by go_cell))).mono ?_
  rintro e w20 ⟨he, hb⟩
  have HD20 : Below W.heap.size W w20 := Below.trans HD19 (hb.mono HD19.size)
  have hz20 := HD20.size
  have DA20 := HB0.out.trans (HD20.mono (show w.heap.size ≤ W.heap.size by omega))
  have t20_0_0 := (hb.cell (p := ⟨W.heap.size, 0, none⟩) (by first | omega | (simp; done) | (simp; omega))).trans (by go_cell : _ = some (.int .i64 0))
  have z20_0_0 := (hb.frozen (p := ⟨W.heap.size, 0, none⟩) (by first | omega | (simp; done) | (simp; omega))).trans (by go_cell : _ = false)
  have t20_0_1 := (hb.cell (p := ⟨W.heap.size, 1, none⟩) (by first | omega | (simp; done) | (simp; omega))).trans (by go_cell : _ = some (.int .i64 0))
  have z20_0_1 := (hb.frozen (p := ⟨W.heap.size, 1, none⟩) (by first | omega | (simp; done) | (simp; omega))).trans (by go_cell : _ = false)
  have l20_0 : W.heap.size < w20.heap.size := by have hs := hb.size; (try simp at hs); omega
  clear hb hHeld
  obtain ⟨r, hr⟩ : ∃ r, (hulTo ⟨p1, q1⟩ (fun _ => ⟨p2, q2⟩) 1) = r := ⟨_, rfl⟩
  rw [hr] at he
  have HR2 := Lib.hid hr
  clear hr
  obtain ⟨P, Q⟩ := r
  obtain rfl : e = .returned (.agg #[.int .i64 P, .int .i64 Q]) := he
  refine hK.out _ _ (G0.out _ HD20) (fun hHeld => ?_)
  clear hK K
  try simp only [act_all]
  refine wpAnyH_ready (rs := [13]) (by kernel_rfl) (by simp) ?_
  refine AllReadyH.cons (o := _) rfl (fun K hK => ?_) AllReadyH.nil
  obtain ⟨_, _⟩ := G0.out _ HD20
  obtain ⟨_, _, _, _⟩ := G1.out _ HD20
  have nb11 : w.heap.size < w20.heap.size := by omega
  have nx11 : ¬ W.heap.size = w.heap.size := by omega
  have nb15 : w.heap.size + 1 < w20.heap.size := by omega
  have nx15 : ¬ W.heap.size = w.heap.size + 1 := by omega
  go_simp
  refine hK.out _ _ (by refine ⟨?_, ?_⟩ <;> go_cell) (fun hHeld => ?_)
  clear hK K
  try simp only [act_all]
  refine wpAnyH_done (by kernel_rfl) ?_ _
  by_cases k1 : a ≤ 0
  · by_cases k2 : 0 ≤ b
    · have HZ : Hid (zlo ⟨a, b⟩ ⟨P, Q⟩ = ⟨0, Q⟩) := Lib.hid (by unfold zlo; rw [if_pos ⟨k1, k2⟩])
      go_wp2_with fail
      refine bodyPost_ret (v := .agg #[.int .i64 0, .int .i64 Q]) (by simp [results, Try.results127, go_sem, *]) rfl ⟨?_, by go_grown⟩
      rw [← HSP.out]; simp only [sqS, HR0.out, HR1.out, Out.binds, IsS]
      have := HR2.out
      simp only [hulTo] at this
      rw [this, HZ.out]
      rfl
    · have k2' : b < 0 := by omega
      have HZ : Hid (zlo ⟨a, b⟩ ⟨P, Q⟩ = ⟨P, Q⟩) := Lib.hid (by unfold zlo; rw [if_neg (by simp only; omega)])
      go_wp2_with fail
      refine bodyPost_ret (v := .agg #[.int .i64 P, .int .i64 Q]) (by simp [results, Try.results127, go_sem, *]) rfl ⟨?_, by go_grown⟩
      rw [← HSP.out]; simp only [sqS, HR0.out, HR1.out, Out.binds, IsS]
      have := HR2.out
      simp only [hulTo] at this
      rw [this, HZ.out]
      rfl
  · have k1' : 0 < a := by omega
    have HZ : Hid (zlo ⟨a, b⟩ ⟨P, Q⟩ = ⟨P, Q⟩) := Lib.hid (by unfold zlo; rw [if_neg (by simp only; omega)])
    go_wp2_with fail
    refine bodyPost_ret (v := .agg #[.int .i64 P, .int .i64 Q]) (by simp [results, Try.results127, go_sem, *]) rfl ⟨?_, by go_grown⟩
    rw [← HSP.out]; simp only [sqS, HR0.out, HR1.out, Out.binds, IsS]
    have := HR2.out
    simp only [hulTo] at this
    rw [this, HZ.out]
    rfl
end Go.Proofs.Ytgbnpnenejgnnaa
