import Derived.Test.YtilclpldfoifkaaEl
import Derived.Test.YtilclpldfoifkaaEn7
import Derived.Deep.DeepCutAuto
namespace Go.Proofs.Ytilclpldfoifkaa
open Go.RowKit Encl

theorem unitGo_ok (n : Int) : ∀ (b : Nat) (z r : Rc), okR z = true → unitGo n b z = .ok r → okR r = true
  | 0, z, r, hz, h => by
    unfold unitGo at h
    injection h with h
    exact h ▸ hz
  | b + 1, z, r, hz, h => by
    unfold unitGo at h
    split at h
    · obtain ⟨z', h1, h2⟩ := bind_okI h
      exact unitGo_ok n b z' r (mulR_ok h1) h2
    · exact unitGo_ok n b z r hz h
theorem unitS_ok {n : Int} {r : Rc} (h : unitS n = .ok r) : okR r = true := unitGo_ok n 10 _ r (by decide) h
def ringS (t a n : Int) : Out Rc := (scS t 1073741824 1000000).bind fun T => (scS a 1073741824 1000000).bind fun A => (unitS n).bind fun u => (mulR ⟨A, ⟨0, 0⟩⟩ u).bind fun v => (subR ⟨T, ⟨0, 0⟩⟩ v).bind fun z => (mulR ⟨T, ⟨0, 0⟩⟩ v).bind fun x => (subR ⟨⟨1073741824, 1073741824⟩, ⟨0, 0⟩⟩ x).bind fun d => divR z d

set_option maxRecDepth 100000 in
set_option maxHeartbeats 16000000 in
theorem ringC_any (t a n : Int) (g1 g2 g3 : Nat) (w : World) (ht : 0 ≤ t ∧ t ≤ 1000000) (ha : 0 ≤ a ∧ a ≤ 1000000) (hc1 : w.cell? ⟨g1, 0, none⟩ = some (.int .i64 t)) (hc2 : w.cell? ⟨g2, 0, none⟩ = some (.int .i64 a)) (hc3 : w.cell? ⟨g3, 0, none⟩ = some (.int .i64 n)) :
    Calls Try.prog 78 #[.pointer (some ⟨g1, 0, none⟩), .pointer (some ⟨g2, 0, none⟩), .pointer (some ⟨g3, 0, none⟩)] w fun e w' => IsR e (ringS t a n) ∧ Below w.heap.size w w' := by
  have HT := Lib.hid ht
  have HA := Lib.hid ha
  have h0k : Hid (okS ⟨0, 0⟩ = true) := Lib.hid (by decide)
  have h1k : Hid (okS ⟨1073741824, 1073741824⟩ = true) := Lib.hid (by decide)
  clear ht ha
  obtain ⟨SP, hsp⟩ : ∃ SP, ringS t a n = SP := ⟨_, rfl⟩
  have HSP := Lib.hid hsp
  rw [hsp]
  clear hsp
  have hg1 : g1 < w.heap.size := World.block_lt_of_cell? w _ hc1
  have hg2 : g2 < w.heap.size := World.block_lt_of_cell? w _ hc2
  have hg3 : g3 < w.heap.size := World.block_lt_of_cell? w _ hc3
  go_enter Try.func78, Try.ntmps78
  go_wp2_with fail
  refine (scaled_any t 1073741824 1000000 _ (by have := HT.out; omega) (by have := HT.out; omega) (by omega) (by omega) (by omega) (by omega)).mono ?_
  rintro e w1 ⟨he, hb⟩
  have D1 : Below w.heap.size w w1 := Below.trans (by go_grown) (hb.mono (by first | omega | (simp; done) | (simp; omega)))
  have s1 : w.heap.size < w1.heap.size := by have hs := hb.size; (try simp at hs); omega
  obtain ⟨k1, k2⟩ := bcl hb
  have pg0 := (k1 (g2) 0 (by first | omega | (simp; done) | (simp; omega))).trans (by go_cell : _ = some (.int .i64 a))
  have ph0 := (k1 (g3) 0 (by first | omega | (simp; done) | (simp; omega))).trans (by go_cell : _ = some (.int .i64 n))
  have pr0 := (k1 (w.heap.size) 0 (by first | omega | (simp; done) | (simp; omega))).trans (by go_cell : _ = some (.int .i64 0))
  have fpr0 := (k2 (w.heap.size) 0 (by first | omega | (simp; done) | (simp; omega))).trans (by go_cell : _ = false)
  have pr1 := (k1 (w.heap.size) 1 (by first | omega | (simp; done) | (simp; omega))).trans (by go_cell : _ = some (.int .i64 0))
  have fpr1 := (k2 (w.heap.size) 1 (by first | omega | (simp; done) | (simp; omega))).trans (by go_cell : _ = false)
  have pr2 := (k1 (w.heap.size) 2 (by first | omega | (simp; done) | (simp; omega))).trans (by go_cell : _ = some (.int .i64 0))
  have fpr2 := (k2 (w.heap.size) 2 (by first | omega | (simp; done) | (simp; omega))).trans (by go_cell : _ = false)
  have pr3 := (k1 (w.heap.size) 3 (by first | omega | (simp; done) | (simp; omega))).trans (by go_cell : _ = some (.int .i64 0))
  have fpr3 := (k2 (w.heap.size) 3 (by first | omega | (simp; done) | (simp; omega))).trans (by go_cell : _ = false)
  clear k1 k2
  clear hb hc1 hc2 hc3
  obtain ⟨r, hr⟩ : ∃ r, (scS t 1073741824 1000000) = r := ⟨_, rfl⟩
  rw [hr] at he
  have HR0 := Lib.hid hr
  clear hr
  rcases r with ⟨T1, T2⟩ | k
  case' bad =>
    obtain rfl : e = .panicked [{ v := .iface 26 (.int .i64 k), recovered := false }] := he
    go_wp2_with fail
    refine ⟨rfl, ?_, by go_grown⟩
    rw [← HSP.out]; simp only [ringS, HR0.out, Out.binds, IsR]; (try rfl)
  obtain rfl : e = .returned (.agg #[.int .i64 T1, .int .i64 T2]) := he
  have HO0 : Hid (okS ⟨T1, T2⟩ = true) := Lib.hid (inR_okS HR0.out)
  go_wp2_with fail
  refine (onAxis_any T1 T2 _).mono ?_
  rintro e w2 ⟨rfl, hb⟩
  unfold retR
  (try simp only)
  have D2 : Below w.heap.size w w2 := D1.trans (hb.mono (by first | omega | (simp; done) | (simp; omega)))
  have s2 : w.heap.size < w2.heap.size := by have hs := hb.size; omega
  obtain ⟨k1, k2⟩ := bcl hb
  have qg0 := (k1 (g2) 0 (by first | omega | (simp; done) | (simp; omega))).trans pg0
  have qh0 := (k1 (g3) 0 (by first | omega | (simp; done) | (simp; omega))).trans ph0
  have qr0 := (k1 (w.heap.size) 0 (by first | omega | (simp; done) | (simp; omega))).trans pr0
  have fqr0 := (k2 (w.heap.size) 0 (by first | omega | (simp; done) | (simp; omega))).trans fpr0
  have qr1 := (k1 (w.heap.size) 1 (by first | omega | (simp; done) | (simp; omega))).trans pr1
  have fqr1 := (k2 (w.heap.size) 1 (by first | omega | (simp; done) | (simp; omega))).trans fpr1
  have qr2 := (k1 (w.heap.size) 2 (by first | omega | (simp; done) | (simp; omega))).trans pr2
  have fqr2 := (k2 (w.heap.size) 2 (by first | omega | (simp; done) | (simp; omega))).trans fpr2
  have qr3 := (k1 (w.heap.size) 3 (by first | omega | (simp; done) | (simp; omega))).trans pr3
  have fqr3 := (k2 (w.heap.size) 3 (by first | omega | (simp; done) | (simp; omega))).trans fpr3
  clear k1 k2
  clear hb D1 s1 pg0 ph0 pr0 fpr0 pr1 fpr1 pr2 fpr2 pr3 fpr3
  go_upto_region 2 with fail
  have ng2 : g2 < w2.heap.size := by omega
  have ng3 : g3 < w2.heap.size := by omega
  have xg0 : (w2.alloc (Obj.cells #[.int .i64 T1, .int .i64 T2, .int .i64 0, .int .i64 0] 25)).cell? ⟨g2, 0, none⟩ = some (.int .i64 a) := by go_cell
  have xh0 : (w2.alloc (Obj.cells #[.int .i64 T1, .int .i64 T2, .int .i64 0, .int .i64 0] 25)).cell? ⟨g3, 0, none⟩ = some (.int .i64 n) := by go_cell
  have xr0 : (w2.alloc (Obj.cells #[.int .i64 T1, .int .i64 T2, .int .i64 0, .int .i64 0] 25)).cell? ⟨w.heap.size, 0, none⟩ = some (.int .i64 0) := by go_cell
  have fxr0 : (w2.alloc (Obj.cells #[.int .i64 T1, .int .i64 T2, .int .i64 0, .int .i64 0] 25)).frozen? ⟨w.heap.size, 0, none⟩ = false := by go_cell
  have xr1 : (w2.alloc (Obj.cells #[.int .i64 T1, .int .i64 T2, .int .i64 0, .int .i64 0] 25)).cell? ⟨w.heap.size, 1, none⟩ = some (.int .i64 0) := by go_cell
  have fxr1 : (w2.alloc (Obj.cells #[.int .i64 T1, .int .i64 T2, .int .i64 0, .int .i64 0] 25)).frozen? ⟨w.heap.size, 1, none⟩ = false := by go_cell
  have xr2 : (w2.alloc (Obj.cells #[.int .i64 T1, .int .i64 T2, .int .i64 0, .int .i64 0] 25)).cell? ⟨w.heap.size, 2, none⟩ = some (.int .i64 0) := by go_cell
  have fxr2 : (w2.alloc (Obj.cells #[.int .i64 T1, .int .i64 T2, .int .i64 0, .int .i64 0] 25)).frozen? ⟨w.heap.size, 2, none⟩ = false := by go_cell
  have xr3 : (w2.alloc (Obj.cells #[.int .i64 T1, .int .i64 T2, .int .i64 0, .int .i64 0] 25)).cell? ⟨w.heap.size, 3, none⟩ = some (.int .i64 0) := by go_cell
  have fxr3 : (w2.alloc (Obj.cells #[.int .i64 T1, .int .i64 T2, .int .i64 0, .int .i64 0] 25)).frozen? ⟨w.heap.size, 3, none⟩ = false := by go_cell
  have xc0 : (w2.alloc (Obj.cells #[.int .i64 T1, .int .i64 T2, .int .i64 0, .int .i64 0] 25)).cell? ⟨w2.heap.size, 0, none⟩ = some (.int .i64 T1) := by go_cell
  have xc1 : (w2.alloc (Obj.cells #[.int .i64 T1, .int .i64 T2, .int .i64 0, .int .i64 0] 25)).cell? ⟨w2.heap.size, 1, none⟩ = some (.int .i64 T2) := by go_cell
  have xc2 : (w2.alloc (Obj.cells #[.int .i64 T1, .int .i64 T2, .int .i64 0, .int .i64 0] 25)).cell? ⟨w2.heap.size, 2, none⟩ = some (.int .i64 0) := by go_cell
  have xc3 : (w2.alloc (Obj.cells #[.int .i64 T1, .int .i64 T2, .int .i64 0, .int .i64 0] 25)).cell? ⟨w2.heap.size, 3, none⟩ = some (.int .i64 0) := by go_cell
  have DE : Below w.heap.size w (w2.alloc (Obj.cells #[.int .i64 T1, .int .i64 T2, .int .i64 0, .int .i64 0] 25)) := D2.alloc D2.size _
  have sE : w2.heap.size < (w2.alloc (Obj.cells #[.int .i64 T1, .int .i64 T2, .int .i64 0, .int .i64 0] 25)).heap.size := by simp
  clear qg0 qh0 qr0 fqr0 qr1 fqr1 qr2 fqr2 qr3 fqr3
  generalize (w2.alloc (Obj.cells #[.int .i64 T1, .int .i64 T2, .int .i64 0, .int .i64 0] 25)) = W at *
  generalize w2.heap.size = CB at *
  have G0 : Hid (∀ w', Below W.heap.size W w' → w'.cell? ⟨g2, 0, none⟩ = some (.int .i64 a) ∧ w'.cell? ⟨g3, 0, none⟩ = some (.int .i64 n)) := Lib.hid (fun w' hb => by
    have eg := fun o' => hb.cell (p := ⟨g2, o', none⟩) (by simp only; omega)
    have eh := fun o' => hb.cell (p := ⟨g3, o', none⟩) (by simp only; omega)
    exact ⟨(eg _).trans xg0, (eh _).trans xh0⟩)
  have G1 : Hid (∀ w', Below W.heap.size W w' → w'.cell? ⟨w.heap.size, 0, none⟩ = some (.int .i64 0) ∧ w'.cell? ⟨w.heap.size, 1, none⟩ = some (.int .i64 0) ∧ w'.cell? ⟨w.heap.size, 2, none⟩ = some (.int .i64 0) ∧ w'.cell? ⟨w.heap.size, 3, none⟩ = some (.int .i64 0) ∧ w'.cell? ⟨CB, 0, none⟩ = some (.int .i64 T1) ∧ w'.cell? ⟨CB, 1, none⟩ = some (.int .i64 T2) ∧ w'.cell? ⟨CB, 2, none⟩ = some (.int .i64 0) ∧ w'.cell? ⟨CB, 3, none⟩ = some (.int .i64 0) ∧ w'.frozen? ⟨w.heap.size, 0, none⟩ = false ∧ w'.frozen? ⟨w.heap.size, 1, none⟩ = false ∧ w'.frozen? ⟨w.heap.size, 2, none⟩ = false ∧ w'.frozen? ⟨w.heap.size, 3, none⟩ = false) := Lib.hid (fun w' hb => by
    have er := fun o' => hb.cell (p := ⟨w.heap.size, o', none⟩) (by simp only; omega)
    have efr := fun o' => hb.frozen (p := ⟨w.heap.size, o', none⟩) (by simp only; omega)
    have ec := fun o' => hb.cell (p := ⟨CB, o', none⟩) (by simp only; omega)
    exact ⟨(er _).trans xr0, (er _).trans xr1, (er _).trans xr2, (er _).trans xr3, (ec _).trans xc0, (ec _).trans xc1, (ec _).trans xc2, (ec _).trans xc3, (efr _).trans fxr0, (efr _).trans fxr1, (efr _).trans fxr2, (efr _).trans fxr3⟩)
  have HD : Below W.heap.size W W := Below.refl _ _
  have HB0 := Lib.hid DE
  clear DE xg0 xh0 xr0 fxr0 xr1 fxr1 xr2 fxr2 xr3 fxr3 xc0 xc1 xc2 xc3
  have HD11 : Below W.heap.size W W.drew := HD.drew
  refine wp_region_held_drew (S := fun w' => w'.cell? ⟨g2, 0, none⟩ = some (.int .i64 a) ∧ w'.cell? ⟨g3, 0, none⟩ = some (.int .i64 n)) (by kernel_rfl) (G0.out _ HD11) (fun hHeld => ?_)
  refine wpAnyH_take (i := 0) (oi := _) (v := ?_) rfl (by kernel_rfl) (by kernel_rfl) (by kernel_rfl) (fun _ _ _ h => h) (Or.inl ⟨by rfl, ?_⟩) (by assumption) ?_
  rotate_left
  · intro w hSw; obtain ⟨_, _⟩ := hSw; go_simp; (try with_reducible rfl)
  try change wpAnyH _ _ _ _ _ _ _ (Act.put _ (some 10) _) _
  try simp only [act_all]
  refine wpAnyH_take (i := 3) (oi := _) (v := ?_) rfl (by kernel_rfl) (by kernel_rfl) (by kernel_rfl) (fun _ _ _ h => h) (Or.inl ⟨by rfl, ?_⟩) (by assumption) ?_
  rotate_left
  · intro w hSw; obtain ⟨_, _⟩ := hSw; go_simp; (try with_reducible rfl)
  try change wpAnyH _ _ _ _ _ _ _ (Act.put _ (some 13) _) _
  try simp only [act_all]
  refine wpAnyH_ready (rs := [1, 6]) (by kernel_rfl) (by simp) ?_
  refine AllReadyH.cons (o := _) rfl (fun K hK => ?_) ?_
  · go_simp
    refine (scaled_any a 1073741824 1000000 _ (by have := HA.out; omega) (by have := HA.out; omega) (by omega) (by omega) (by omega) (by omega)).mono ?_
    rintro e w12 ⟨he, hb⟩
    have HD12 : Below W.heap.size W w12 := Below.trans HD11 (hb.mono HD11.size)
    have hz12 := HD12.size
    have DA12 := HB0.out.trans (HD12.mono (show w.heap.size ≤ W.heap.size by omega))
    clear hb hHeld
    obtain ⟨r, hr⟩ : ∃ r, (scS a 1073741824 1000000) = r := ⟨_, rfl⟩
    rw [hr] at he
    have HR1 := Lib.hid hr
    clear hr
    rcases r with ⟨A1, A2⟩ | k
    case' bad =>
      obtain rfl : e = .panicked [{ v := .iface 26 (.int .i64 k), recovered := false }] := he
      refine ⟨rfl, ?_, by go_grown⟩
      rw [← HSP.out]; simp only [ringS, HR0.out, HR1.out, Out.binds, IsR]; (try rfl)
    obtain rfl : e = .returned (.agg #[.int .i64 A1, .int .i64 A2]) := he
    have HO1 := Lib.hid (inR_okS HR1.out)
    refine hK.out _ _ (G0.out _ HD12) (fun hHeld => ?_)
    clear hK K
    try simp only [act_all]
    refine wpAnyH_ready (rs := [2, 6]) (by kernel_rfl) (by simp) ?_
    refine AllReadyH.cons (o := _) rfl (fun K hK => ?_) ?_
    · go_simp
      refine (onAxis_any A1 A2 _).mono ?_
      rintro e w13 ⟨he, hb⟩
      have HD13 : Below W.heap.size W w13 := Below.trans HD12 (hb.mono HD12.size)
      have hz13 := HD13.size
      have DA13 := HB0.out.trans (HD13.mono (show w.heap.size ≤ W.heap.size by omega))
      clear hb hHeld
      obtain rfl : e = .returned (.agg #[.int .i64 A1, .int .i64 A2, .int .i64 0, .int .i64 0]) := he
      refine hK.out _ _ (G0.out _ HD13) (fun hHeld => ?_)
      clear hK K
      try simp only [act_all]
      refine wpAnyH_ready (rs := [4, 6]) (by kernel_rfl) (by simp) ?_
      refine AllReadyH.cons (o := _) rfl (fun K hK => ?_) ?_
      · go_simp
        refine (unit_any n _).mono ?_
        rintro e w14 ⟨he, hb⟩
        have HD14 : Below W.heap.size W w14 := Below.trans HD13 (hb.mono HD13.size)
        have hz14 := HD14.size
        have DA14 := HB0.out.trans (HD14.mono (show w.heap.size ≤ W.heap.size by omega))
        clear hb hHeld
        obtain ⟨r, hr⟩ : ∃ r, (unitS n) = r := ⟨_, rfl⟩
        rw [hr] at he
        have HR3 := Lib.hid hr
        clear hr
        rcases r with ⟨⟨u1, u2⟩, ⟨u3, u4⟩⟩ | k
        case' bad =>
          obtain rfl : e = .panicked [{ v := .iface 26 (.int .i64 k), recovered := false }] := he
          refine ⟨rfl, ?_, by go_grown⟩
          rw [← HSP.out]; simp only [ringS, HR0.out, HR1.out, HR3.out, Out.binds, IsR]; (try rfl)
        obtain rfl : e = .returned (.agg #[.int .i64 u1, .int .i64 u2, .int .i64 u3, .int .i64 u4]) := he
        have HO3 := Lib.hid ((okR_iff _).1 (unitS_ok HR3.out))
        refine hK.out _ _ (G0.out _ HD14) (fun hHeld => ?_)
        clear hK K
        try simp only [act_all]
        refine wpAnyH_ready (rs := [5, 6]) (by kernel_rfl) (by simp) ?_
        refine AllReadyH.cons (o := _) rfl (fun K hK => ?_) ?_
        · go_simp
          refine (mulRect_any A1 A2 0 0 u1 u2 u3 u4 _ HO1.out h0k.out HO3.out.1 HO3.out.2).mono ?_
          rintro e w15 ⟨he, hb⟩
          have HD15 : Below W.heap.size W w15 := Below.trans HD14 (hb.mono HD14.size)
          have hz15 := HD15.size
          have DA15 := HB0.out.trans (HD15.mono (show w.heap.size ≤ W.heap.size by omega))
          clear hb hHeld
          obtain ⟨r, hr⟩ : ∃ r, (mulR ⟨⟨A1, A2⟩, ⟨0, 0⟩⟩ ⟨⟨u1, u2⟩, ⟨u3, u4⟩⟩) = r := ⟨_, rfl⟩
          rw [hr] at he
          have HR4 := Lib.hid hr
          clear hr
          rcases r with ⟨⟨v1, v2⟩, ⟨v3, v4⟩⟩ | k
          case' bad =>
            obtain rfl : e = .panicked [{ v := .iface 26 (.int .i64 k), recovered := false }] := he
            refine ⟨rfl, ?_, by go_grown⟩
            rw [← HSP.out]; simp only [ringS, HR0.out, HR1.out, HR3.out, HR4.out, Out.binds, IsR]; (try rfl)
          obtain rfl : e = .returned (.agg #[.int .i64 v1, .int .i64 v2, .int .i64 v3, .int .i64 v4]) := he
          have HO4 := Lib.hid ((okR_iff _).1 (mulR_ok HR4.out))
          refine hK.out _ _ (G0.out _ HD15) (fun hHeld => ?_)
          clear hK K
          try simp only [act_all]
          refine wpAnyH_ready (rs := [6]) (by kernel_rfl) (by simp) ?_
          refine AllReadyH.cons (o := _) rfl (fun K hK => ?_) AllReadyH.nil
          have HD16 : Below W.heap.size W (w15.alloc (Obj.cells #[.int .i64 0, .int .i64 0, .int .i64 0, .int .i64 0] 25)) := bal HD15 _
          go_simp
          refine hK.out _ _ (G0.out _ HD16) (fun hHeld => ?_)
          clear hK K
          try simp only [act_all]
          refine wpAnyH_ready (rs := [7]) (by kernel_rfl) (by simp) ?_
          refine AllReadyH.cons (o := _) rfl (fun K hK => ?_) AllReadyH.nil
          obtain ⟨_, _⟩ := G0.out _ HD15
          obtain ⟨_, _, _, _, _, _, _, _, _, _, _, _⟩ := G1.out _ HD15
          have nb0 : g2 < w15.heap.size := by omega
          have nx0 : ¬ w15.heap.size = g2 := by omega
          have nb1 : g3 < w15.heap.size := by omega
          have nx1 : ¬ w15.heap.size = g3 := by omega
          go_simp
          refine hK.out _ _ (by refine ⟨?_, ?_⟩ <;> go_cell) (fun hHeld => ?_)
          clear hK K
          try simp only [act_all]
          refine wpAnyH_done (by kernel_rfl) ?_ _
          go_upto_region 3 with fail
          have nq1 : CB < w15.heap.size := by omega
          have nq2 : w.heap.size < w15.heap.size := by omega
          have DE : Below w.heap.size w (w15.alloc (Obj.cells #[.int .i64 v1, .int .i64 v2, .int .i64 v3, .int .i64 v4] 25)) := DA15.alloc (by omega) _
          have yr0 : (w15.alloc (Obj.cells #[.int .i64 v1, .int .i64 v2, .int .i64 v3, .int .i64 v4] 25)).cell? ⟨w.heap.size, 0, none⟩ = some (.int .i64 0) := by go_cell
          have fyr0 : (w15.alloc (Obj.cells #[.int .i64 v1, .int .i64 v2, .int .i64 v3, .int .i64 v4] 25)).frozen? ⟨w.heap.size, 0, none⟩ = false := by go_cell
          have yr1 : (w15.alloc (Obj.cells #[.int .i64 v1, .int .i64 v2, .int .i64 v3, .int .i64 v4] 25)).cell? ⟨w.heap.size, 1, none⟩ = some (.int .i64 0) := by go_cell
          have fyr1 : (w15.alloc (Obj.cells #[.int .i64 v1, .int .i64 v2, .int .i64 v3, .int .i64 v4] 25)).frozen? ⟨w.heap.size, 1, none⟩ = false := by go_cell
          have yr2 : (w15.alloc (Obj.cells #[.int .i64 v1, .int .i64 v2, .int .i64 v3, .int .i64 v4] 25)).cell? ⟨w.heap.size, 2, none⟩ = some (.int .i64 0) := by go_cell
          have fyr2 : (w15.alloc (Obj.cells #[.int .i64 v1, .int .i64 v2, .int .i64 v3, .int .i64 v4] 25)).frozen? ⟨w.heap.size, 2, none⟩ = false := by go_cell
          have yr3 : (w15.alloc (Obj.cells #[.int .i64 v1, .int .i64 v2, .int .i64 v3, .int .i64 v4] 25)).cell? ⟨w.heap.size, 3, none⟩ = some (.int .i64 0) := by go_cell
          have fyr3 : (w15.alloc (Obj.cells #[.int .i64 v1, .int .i64 v2, .int .i64 v3, .int .i64 v4] 25)).frozen? ⟨w.heap.size, 3, none⟩ = false := by go_cell
          have yc0 : (w15.alloc (Obj.cells #[.int .i64 v1, .int .i64 v2, .int .i64 v3, .int .i64 v4] 25)).cell? ⟨CB, 0, none⟩ = some (.int .i64 T1) := by go_cell
          have yc1 : (w15.alloc (Obj.cells #[.int .i64 v1, .int .i64 v2, .int .i64 v3, .int .i64 v4] 25)).cell? ⟨CB, 1, none⟩ = some (.int .i64 T2) := by go_cell
          have yc2 : (w15.alloc (Obj.cells #[.int .i64 v1, .int .i64 v2, .int .i64 v3, .int .i64 v4] 25)).cell? ⟨CB, 2, none⟩ = some (.int .i64 0) := by go_cell
          have yc3 : (w15.alloc (Obj.cells #[.int .i64 v1, .int .i64 v2, .int .i64 v3, .int .i64 v4] 25)).cell? ⟨CB, 3, none⟩ = some (.int .i64 0) := by go_cell
          have yv0 : (w15.alloc (Obj.cells #[.int .i64 v1, .int .i64 v2, .int .i64 v3, .int .i64 v4] 25)).cell? ⟨w15.heap.size, 0, none⟩ = some (.int .i64 v1) := by go_cell
          have yv1 : (w15.alloc (Obj.cells #[.int .i64 v1, .int .i64 v2, .int .i64 v3, .int .i64 v4] 25)).cell? ⟨w15.heap.size, 1, none⟩ = some (.int .i64 v2) := by go_cell
          have yv2 : (w15.alloc (Obj.cells #[.int .i64 v1, .int .i64 v2, .int .i64 v3, .int .i64 v4] 25)).cell? ⟨w15.heap.size, 2, none⟩ = some (.int .i64 v3) := by go_cell
          have yv3 : (w15.alloc (Obj.cells #[.int .i64 v1, .int .i64 v2, .int .i64 v3, .int .i64 v4] 25)).cell? ⟨w15.heap.size, 3, none⟩ = some (.int .i64 v4) := by go_cell
          have sE1 : w15.heap.size < (w15.alloc (Obj.cells #[.int .i64 v1, .int .i64 v2, .int .i64 v3, .int .i64 v4] 25)).heap.size := by first | (simp; done) | (simp; omega)
          have sE2 : CB < (w15.alloc (Obj.cells #[.int .i64 v1, .int .i64 v2, .int .i64 v3, .int .i64 v4] 25)).heap.size := by first | (simp; done) | (simp; omega)
          have sE3 : w.heap.size < (w15.alloc (Obj.cells #[.int .i64 v1, .int .i64 v2, .int .i64 v3, .int .i64 v4] 25)).heap.size := by first | (simp; done) | (simp; omega)
          clear hHeld
          generalize (w15.alloc (Obj.cells #[.int .i64 v1, .int .i64 v2, .int .i64 v3, .int .i64 v4] 25)) = V at *
          generalize w15.heap.size = XB at *
          go_wp2_with fail
          refine (subRect_any T1 T2 0 0 v1 v2 v3 v4 _ HO0.out h0k.out HO4.out.1 HO4.out.2).mono ?_
          rintro e w5 ⟨he, hb⟩
          have D5 : Below w.heap.size w w5 := DE.trans (hb.mono (by omega))
          have hs5 := hb.size
          obtain ⟨k1, k2⟩ := bcl hb
          have qr0 := (k1 (w.heap.size) 0 (by first | omega | (simp; done) | (simp; omega))).trans yr0
          have fqr0 := (k2 (w.heap.size) 0 (by first | omega | (simp; done) | (simp; omega))).trans fyr0
          have qr1 := (k1 (w.heap.size) 1 (by first | omega | (simp; done) | (simp; omega))).trans yr1
          have fqr1 := (k2 (w.heap.size) 1 (by first | omega | (simp; done) | (simp; omega))).trans fyr1
          have qr2 := (k1 (w.heap.size) 2 (by first | omega | (simp; done) | (simp; omega))).trans yr2
          have fqr2 := (k2 (w.heap.size) 2 (by first | omega | (simp; done) | (simp; omega))).trans fyr2
          have qr3 := (k1 (w.heap.size) 3 (by first | omega | (simp; done) | (simp; omega))).trans yr3
          have fqr3 := (k2 (w.heap.size) 3 (by first | omega | (simp; done) | (simp; omega))).trans fyr3
          have qc0 := (k1 (CB) 0 (by first | omega | (simp; done) | (simp; omega))).trans yc0
          have qc1 := (k1 (CB) 1 (by first | omega | (simp; done) | (simp; omega))).trans yc1
          have qc2 := (k1 (CB) 2 (by first | omega | (simp; done) | (simp; omega))).trans yc2
          have qc3 := (k1 (CB) 3 (by first | omega | (simp; done) | (simp; omega))).trans yc3
          have qv0 := (k1 (XB) 0 (by first | omega | (simp; done) | (simp; omega))).trans yv0
          have qv1 := (k1 (XB) 1 (by first | omega | (simp; done) | (simp; omega))).trans yv1
          have qv2 := (k1 (XB) 2 (by first | omega | (simp; done) | (simp; omega))).trans yv2
          have qv3 := (k1 (XB) 3 (by first | omega | (simp; done) | (simp; omega))).trans yv3
          clear k1 k2
          clear hb DE yr0 fyr0 yr1 fyr1 yr2 fyr2 yr3 fyr3 yc0 yc1 yc2 yc3 yv0 yv1 yv2 yv3
          obtain ⟨r, hr⟩ : ∃ r, (subR ⟨⟨T1, T2⟩, ⟨0, 0⟩⟩ ⟨⟨v1, v2⟩, ⟨v3, v4⟩⟩) = r := ⟨_, rfl⟩
          rw [hr] at he
          have HR5 := Lib.hid hr
          clear hr
          rcases r with ⟨⟨z1, z2⟩, ⟨z3, z4⟩⟩ | k
          case' bad =>
            obtain rfl : e = .panicked [{ v := .iface 26 (.int .i64 k), recovered := false }] := he
            go_wp2_with fail
            refine ⟨rfl, ?_, by go_grown⟩
            rw [← HSP.out]; simp only [ringS, HR0.out, HR1.out, HR3.out, HR4.out, HR5.out, Out.binds, IsR]; (try rfl)
          obtain rfl : e = .returned (.agg #[.int .i64 z1, .int .i64 z2, .int .i64 z3, .int .i64 z4]) := he
          have HO5 := Lib.hid ((okR_iff _).1 (subR_ok HR5.out))
          go_upto_region 4 with fail
          have nr1 : CB < w5.heap.size := by omega
          have nr2 : XB < w5.heap.size := by omega
          have nr3 : w.heap.size < w5.heap.size := by omega
          have xr0 : (w5.alloc (Obj.cells #[.int .i64 z1, .int .i64 z2, .int .i64 z3, .int .i64 z4] 25)).cell? ⟨w.heap.size, 0, none⟩ = some (.int .i64 0) := by go_cell
          have fxr0 : (w5.alloc (Obj.cells #[.int .i64 z1, .int .i64 z2, .int .i64 z3, .int .i64 z4] 25)).frozen? ⟨w.heap.size, 0, none⟩ = false := by go_cell
          have xr1 : (w5.alloc (Obj.cells #[.int .i64 z1, .int .i64 z2, .int .i64 z3, .int .i64 z4] 25)).cell? ⟨w.heap.size, 1, none⟩ = some (.int .i64 0) := by go_cell
          have fxr1 : (w5.alloc (Obj.cells #[.int .i64 z1, .int .i64 z2, .int .i64 z3, .int .i64 z4] 25)).frozen? ⟨w.heap.size, 1, none⟩ = false := by go_cell
          have xr2 : (w5.alloc (Obj.cells #[.int .i64 z1, .int .i64 z2, .int .i64 z3, .int .i64 z4] 25)).cell? ⟨w.heap.size, 2, none⟩ = some (.int .i64 0) := by go_cell
          have fxr2 : (w5.alloc (Obj.cells #[.int .i64 z1, .int .i64 z2, .int .i64 z3, .int .i64 z4] 25)).frozen? ⟨w.heap.size, 2, none⟩ = false := by go_cell
          have xr3 : (w5.alloc (Obj.cells #[.int .i64 z1, .int .i64 z2, .int .i64 z3, .int .i64 z4] 25)).cell? ⟨w.heap.size, 3, none⟩ = some (.int .i64 0) := by go_cell
          have fxr3 : (w5.alloc (Obj.cells #[.int .i64 z1, .int .i64 z2, .int .i64 z3, .int .i64 z4] 25)).frozen? ⟨w.heap.size, 3, none⟩ = false := by go_cell
          have xc0 : (w5.alloc (Obj.cells #[.int .i64 z1, .int .i64 z2, .int .i64 z3, .int .i64 z4] 25)).cell? ⟨CB, 0, none⟩ = some (.int .i64 T1) := by go_cell
          have xc1 : (w5.alloc (Obj.cells #[.int .i64 z1, .int .i64 z2, .int .i64 z3, .int .i64 z4] 25)).cell? ⟨CB, 1, none⟩ = some (.int .i64 T2) := by go_cell
          have xc2 : (w5.alloc (Obj.cells #[.int .i64 z1, .int .i64 z2, .int .i64 z3, .int .i64 z4] 25)).cell? ⟨CB, 2, none⟩ = some (.int .i64 0) := by go_cell
          have xc3 : (w5.alloc (Obj.cells #[.int .i64 z1, .int .i64 z2, .int .i64 z3, .int .i64 z4] 25)).cell? ⟨CB, 3, none⟩ = some (.int .i64 0) := by go_cell
          have xv0 : (w5.alloc (Obj.cells #[.int .i64 z1, .int .i64 z2, .int .i64 z3, .int .i64 z4] 25)).cell? ⟨XB, 0, none⟩ = some (.int .i64 v1) := by go_cell
          have xv1 : (w5.alloc (Obj.cells #[.int .i64 z1, .int .i64 z2, .int .i64 z3, .int .i64 z4] 25)).cell? ⟨XB, 1, none⟩ = some (.int .i64 v2) := by go_cell
          have xv2 : (w5.alloc (Obj.cells #[.int .i64 z1, .int .i64 z2, .int .i64 z3, .int .i64 z4] 25)).cell? ⟨XB, 2, none⟩ = some (.int .i64 v3) := by go_cell
          have xv3 : (w5.alloc (Obj.cells #[.int .i64 z1, .int .i64 z2, .int .i64 z3, .int .i64 z4] 25)).cell? ⟨XB, 3, none⟩ = some (.int .i64 v4) := by go_cell
          have xz0 : (w5.alloc (Obj.cells #[.int .i64 z1, .int .i64 z2, .int .i64 z3, .int .i64 z4] 25)).cell? ⟨w5.heap.size, 0, none⟩ = some (.int .i64 z1) := by go_cell
          have xz1 : (w5.alloc (Obj.cells #[.int .i64 z1, .int .i64 z2, .int .i64 z3, .int .i64 z4] 25)).cell? ⟨w5.heap.size, 1, none⟩ = some (.int .i64 z2) := by go_cell
          have xz2 : (w5.alloc (Obj.cells #[.int .i64 z1, .int .i64 z2, .int .i64 z3, .int .i64 z4] 25)).cell? ⟨w5.heap.size, 2, none⟩ = some (.int .i64 z3) := by go_cell
          have xz3 : (w5.alloc (Obj.cells #[.int .i64 z1, .int .i64 z2, .int .i64 z3, .int .i64 z4] 25)).cell? ⟨w5.heap.size, 3, none⟩ = some (.int .i64 z4) := by go_cell
          have DE : Below w.heap.size w (w5.alloc (Obj.cells #[.int .i64 z1, .int .i64 z2, .int .i64 z3, .int .i64 z4] 25)) := D5.alloc (by omega) _
          have sF : w5.heap.size < (w5.alloc (Obj.cells #[.int .i64 z1, .int .i64 z2, .int .i64 z3, .int .i64 z4] 25)).heap.size := by simp
          clear qr0 fqr0 qr1 fqr1 qr2 fqr2 qr3 fqr3 qc0 qc1 qc2 qc3 qv0 qv1 qv2 qv3
          generalize (w5.alloc (Obj.cells #[.int .i64 z1, .int .i64 z2, .int .i64 z3, .int .i64 z4] 25)) = V' at *
          generalize w5.heap.size = ZB at *
          have J0 : Hid (∀ w', Below V'.heap.size V' w' → w'.cell? ⟨ZB, 0, none⟩ = some (.int .i64 z1) ∧ w'.cell? ⟨ZB, 1, none⟩ = some (.int .i64 z2) ∧ w'.cell? ⟨ZB, 2, none⟩ = some (.int .i64 z3) ∧ w'.cell? ⟨ZB, 3, none⟩ = some (.int .i64 z4) ∧ w'.cell? ⟨CB, 0, none⟩ = some (.int .i64 T1) ∧ w'.cell? ⟨CB, 1, none⟩ = some (.int .i64 T2) ∧ w'.cell? ⟨CB, 2, none⟩ = some (.int .i64 0) ∧ w'.cell? ⟨CB, 3, none⟩ = some (.int .i64 0) ∧ w'.cell? ⟨XB, 0, none⟩ = some (.int .i64 v1) ∧ w'.cell? ⟨XB, 1, none⟩ = some (.int .i64 v2) ∧ w'.cell? ⟨XB, 2, none⟩ = some (.int .i64 v3) ∧ w'.cell? ⟨XB, 3, none⟩ = some (.int .i64 v4)) := Lib.hid (fun w' hb => by
            have ez := fun o' => hb.cell (p := ⟨ZB, o', none⟩) (by simp only; omega)
            have ec := fun o' => hb.cell (p := ⟨CB, o', none⟩) (by simp only; omega)
            have ev := fun o' => hb.cell (p := ⟨XB, o', none⟩) (by simp only; omega)
            exact ⟨(ez _).trans xz0, (ez _).trans xz1, (ez _).trans xz2, (ez _).trans xz3, (ec _).trans xc0, (ec _).trans xc1, (ec _).trans xc2, (ec _).trans xc3, (ev _).trans xv0, (ev _).trans xv1, (ev _).trans xv2, (ev _).trans xv3⟩)
          have J1 : Hid (∀ w', Below V'.heap.size V' w' → w'.cell? ⟨w.heap.size, 0, none⟩ = some (.int .i64 0) ∧ w'.cell? ⟨w.heap.size, 1, none⟩ = some (.int .i64 0) ∧ w'.cell? ⟨w.heap.size, 2, none⟩ = some (.int .i64 0) ∧ w'.cell? ⟨w.heap.size, 3, none⟩ = some (.int .i64 0) ∧ w'.frozen? ⟨w.heap.size, 0, none⟩ = false ∧ w'.frozen? ⟨w.heap.size, 1, none⟩ = false ∧ w'.frozen? ⟨w.heap.size, 2, none⟩ = false ∧ w'.frozen? ⟨w.heap.size, 3, none⟩ = false) := Lib.hid (fun w' hb => by
            have er := fun o' => hb.cell (p := ⟨w.heap.size, o', none⟩) (by simp only; omega)
            have efr := fun o' => hb.frozen (p := ⟨w.heap.size, o', none⟩) (by simp only; omega)
            exact ⟨(er _).trans xr0, (er _).trans xr1, (er _).trans xr2, (er _).trans xr3, (efr _).trans fxr0, (efr _).trans fxr1, (efr _).trans fxr2, (efr _).trans fxr3⟩)
          have HD : Below V'.heap.size V' V' := Below.refl _ _
          have K0 := Lib.hid DE
          clear DE xz0 xz1 xz2 xz3 xc0 xc1 xc2 xc3 xv0 xv1 xv2 xv3 xr0 fxr0 xr1 fxr1 xr2 fxr2 xr3 fxr3
          have HD31 : Below V'.heap.size V' V'.drew := HD.drew
          refine wp_region_held_drew (S := fun w' => w'.cell? ⟨ZB, 0, none⟩ = some (.int .i64 z1) ∧ w'.cell? ⟨ZB, 1, none⟩ = some (.int .i64 z2) ∧ w'.cell? ⟨ZB, 2, none⟩ = some (.int .i64 z3) ∧ w'.cell? ⟨ZB, 3, none⟩ = some (.int .i64 z4) ∧ w'.cell? ⟨CB, 0, none⟩ = some (.int .i64 T1) ∧ w'.cell? ⟨CB, 1, none⟩ = some (.int .i64 T2) ∧ w'.cell? ⟨CB, 2, none⟩ = some (.int .i64 0) ∧ w'.cell? ⟨CB, 3, none⟩ = some (.int .i64 0) ∧ w'.cell? ⟨XB, 0, none⟩ = some (.int .i64 v1) ∧ w'.cell? ⟨XB, 1, none⟩ = some (.int .i64 v2) ∧ w'.cell? ⟨XB, 2, none⟩ = some (.int .i64 v3) ∧ w'.cell? ⟨XB, 3, none⟩ = some (.int .i64 v4)) (by kernel_rfl) (J0.out _ HD31) (fun hHeld => ?_)
          refine wpAnyH_take (i := 0) (oi := _) (v := ?_) rfl (by kernel_rfl) (by kernel_rfl) (by kernel_rfl) (fun _ _ _ h => h) (Or.inl ⟨by rfl, ?_⟩) (by assumption) ?_
          rotate_left
          · intro w hSw; obtain ⟨_, _, _, _, _, _, _, _, _, _, _, _⟩ := hSw; go_simp; (try with_reducible rfl)
          try change wpAnyH _ _ _ _ _ _ _ (Act.put _ (some 19) _) _
          try simp only [act_all]
          refine wpAnyH_take (i := 3) (oi := _) (v := ?_) rfl (by kernel_rfl) (by kernel_rfl) (by kernel_rfl) (fun _ _ _ h => h) (Or.inl ⟨by rfl, ?_⟩) (by assumption) ?_
          rotate_left
          · intro w hSw; obtain ⟨_, _, _, _, _, _, _, _, _, _, _, _⟩ := hSw; go_simp; (try with_reducible rfl)
          try change wpAnyH _ _ _ _ _ _ _ (Act.put _ (some 22) _) _
          try simp only [act_all]
          refine wpAnyH_take (i := 4) (oi := _) (v := ?_) rfl (by kernel_rfl) (by kernel_rfl) (by kernel_rfl) (fun _ _ _ h => h) (Or.inl ⟨by rfl, ?_⟩) (by assumption) ?_
          rotate_left
          · intro w hSw; obtain ⟨_, _, _, _, _, _, _, _, _, _, _, _⟩ := hSw; go_simp; (try with_reducible rfl)
          try change wpAnyH _ _ _ _ _ _ _ (Act.put _ (some 23) _) _
          try simp only [act_all]
          refine wpAnyH_ready (rs := [1]) (by kernel_rfl) (by simp) ?_
          refine AllReadyH.cons (o := _) rfl (fun K hK => ?_) AllReadyH.nil
          go_simp
          refine ((whole_any 1 _ (by omega) (by omega)).mono (fun e w' h => (by rw [show (1 : Int) * 1073741824 = 1073741824 from rfl] at h; exact h : e = retS ⟨1073741824, 1073741824⟩ ∧ Below _ _ w'))).mono ?_
          rintro e w32 ⟨he, hb⟩
          have HD32 : Below V'.heap.size V' w32 := Below.trans HD31 (hb.mono HD31.size)
          have hz32 := HD32.size
          have DA32 := K0.out.trans (HD32.mono (show w.heap.size ≤ V'.heap.size by omega))
          clear hb hHeld
          obtain rfl : e = .returned (.agg #[.int .i64 1073741824, .int .i64 1073741824]) := he
          refine hK.out _ _ (J0.out _ HD32) (fun hHeld => ?_)
          clear hK K
          try simp only [act_all]
          refine wpAnyH_ready (rs := [2]) (by kernel_rfl) (by simp) ?_
          refine AllReadyH.cons (o := _) rfl (fun K hK => ?_) AllReadyH.nil
          go_simp
          refine (onAxis_any 1073741824 1073741824 _).mono ?_
          rintro e w33 ⟨he, hb⟩
          have HD33 : Below V'.heap.size V' w33 := Below.trans HD32 (hb.mono HD32.size)
          have hz33 := HD33.size
          have DA33 := K0.out.trans (HD33.mono (show w.heap.size ≤ V'.heap.size by omega))
          clear hb hHeld
          obtain rfl : e = .returned (.agg #[.int .i64 1073741824, .int .i64 1073741824, .int .i64 0, .int .i64 0]) := he
          refine hK.out _ _ (J0.out _ HD33) (fun hHeld => ?_)
          clear hK K
          try simp only [act_all]
          refine wpAnyH_ready (rs := [5]) (by kernel_rfl) (by simp) ?_
          refine AllReadyH.cons (o := _) rfl (fun K hK => ?_) AllReadyH.nil
          go_simp
          refine (mulRect_any T1 T2 0 0 v1 v2 v3 v4 _ HO0.out h0k.out HO4.out.1 HO4.out.2).mono ?_
          rintro e w34 ⟨he, hb⟩
          have HD34 : Below V'.heap.size V' w34 := Below.trans HD33 (hb.mono HD33.size)
          have hz34 := HD34.size
          have DA34 := K0.out.trans (HD34.mono (show w.heap.size ≤ V'.heap.size by omega))
          clear hb hHeld
          obtain ⟨r, hr⟩ : ∃ r, (mulR ⟨⟨T1, T2⟩, ⟨0, 0⟩⟩ ⟨⟨v1, v2⟩, ⟨v3, v4⟩⟩) = r := ⟨_, rfl⟩
          rw [hr] at he
          have HR10 := Lib.hid hr
          clear hr
          rcases r with ⟨⟨x1, x2⟩, ⟨x3, x4⟩⟩ | k
          case' bad =>
            obtain rfl : e = .panicked [{ v := .iface 26 (.int .i64 k), recovered := false }] := he
            refine ⟨rfl, ?_, by go_grown⟩
            rw [← HSP.out]; simp only [ringS, HR0.out, HR1.out, HR3.out, HR4.out, HR5.out, HR10.out, Out.binds, IsR]; (try rfl)
          obtain rfl : e = .returned (.agg #[.int .i64 x1, .int .i64 x2, .int .i64 x3, .int .i64 x4]) := he
          have HO10 := Lib.hid ((okR_iff _).1 (mulR_ok HR10.out))
          refine hK.out _ _ (J0.out _ HD34) (fun hHeld => ?_)
          clear hK K
          try simp only [act_all]
          refine wpAnyH_ready (rs := [6]) (by kernel_rfl) (by simp) ?_
          refine AllReadyH.cons (o := _) rfl (fun K hK => ?_) AllReadyH.nil
          go_simp
          refine (subRect_any 1073741824 1073741824 0 0 x1 x2 x3 x4 _ h1k.out h0k.out HO10.out.1 HO10.out.2).mono ?_
          rintro e w35 ⟨he, hb⟩
          have HD35 : Below V'.heap.size V' w35 := Below.trans HD34 (hb.mono HD34.size)
          have hz35 := HD35.size
          have DA35 := K0.out.trans (HD35.mono (show w.heap.size ≤ V'.heap.size by omega))
          clear hb hHeld
          obtain ⟨r, hr⟩ : ∃ r, (subR ⟨⟨1073741824, 1073741824⟩, ⟨0, 0⟩⟩ ⟨⟨x1, x2⟩, ⟨x3, x4⟩⟩) = r := ⟨_, rfl⟩
          rw [hr] at he
          have HR11 := Lib.hid hr
          clear hr
          rcases r with ⟨⟨d1, d2⟩, ⟨d3, d4⟩⟩ | k
          case' bad =>
            obtain rfl : e = .panicked [{ v := .iface 26 (.int .i64 k), recovered := false }] := he
            refine ⟨rfl, ?_, by go_grown⟩
            rw [← HSP.out]; simp only [ringS, HR0.out, HR1.out, HR3.out, HR4.out, HR5.out, HR10.out, HR11.out, Out.binds, IsR]; (try rfl)
          obtain rfl : e = .returned (.agg #[.int .i64 d1, .int .i64 d2, .int .i64 d3, .int .i64 d4]) := he
          have HO11 := Lib.hid ((okR_iff _).1 (subR_ok HR11.out))
          refine hK.out _ _ (J0.out _ HD35) (fun hHeld => ?_)
          clear hK K
          try simp only [act_all]
          refine wpAnyH_ready (rs := [7]) (by kernel_rfl) (by simp) ?_
          refine AllReadyH.cons (o := _) rfl (fun K hK => ?_) AllReadyH.nil
          go_simp
          refine (divRect_any z1 z2 z3 z4 d1 d2 d3 d4 _ HO5.out.1 HO5.out.2 HO11.out.1 HO11.out.2).mono ?_
          rintro e w36 ⟨he, hb⟩
          have HD36 : Below V'.heap.size V' w36 := Below.trans HD35 (hb.mono HD35.size)
          have hz36 := HD36.size
          have DA36 := K0.out.trans (HD36.mono (show w.heap.size ≤ V'.heap.size by omega))
          clear hb hHeld
          obtain ⟨r, hr⟩ : ∃ r, (divR ⟨⟨z1, z2⟩, ⟨z3, z4⟩⟩ ⟨⟨d1, d2⟩, ⟨d3, d4⟩⟩) = r := ⟨_, rfl⟩
          rw [hr] at he
          have HR12 := Lib.hid hr
          clear hr
          rcases r with ⟨⟨p1, q1⟩, ⟨p2, q2⟩⟩ | k
          case' bad =>
            obtain rfl : e = .panicked [{ v := .iface 26 (.int .i64 k), recovered := false }] := he
            refine ⟨rfl, ?_, by go_grown⟩
            rw [← HSP.out]; simp only [ringS, HR0.out, HR1.out, HR3.out, HR4.out, HR5.out, HR10.out, HR11.out, HR12.out, Out.binds, IsR]; (try rfl)
          obtain rfl : e = .returned (.agg #[.int .i64 p1, .int .i64 q1, .int .i64 p2, .int .i64 q2]) := he
          refine hK.out _ _ (J0.out _ HD36) (fun hHeld => ?_)
          clear hK K
          try simp only [act_all]
          refine wpAnyH_ready (rs := [8]) (by kernel_rfl) (by simp) ?_
          refine AllReadyH.cons (o := _) rfl (fun K hK => ?_) AllReadyH.nil
          obtain ⟨_, _, _, _, _, _, _, _, _, _, _, _⟩ := J0.out _ HD36
          obtain ⟨_, _, _, _, _, _, _, _⟩ := J1.out _ HD36
          go_simp
          refine hK.out _ _ (by refine ⟨?_, ?_, ?_, ?_, ?_, ?_, ?_, ?_, ?_, ?_, ?_, ?_⟩ <;> go_cell) (fun hHeld => ?_)
          clear hK K
          try simp only [act_all]
          refine wpAnyH_done (by kernel_rfl) ?_ _
          go_wp2_with fail
          refine bodyPost_ret (v := .agg #[.int .i64 p1, .int .i64 q1, .int .i64 p2, .int .i64 q2]) (by simp [results, Try.results78, go_sem, *]) rfl ⟨?_, by go_grown⟩
          rw [← HSP.out]; simp only [ringS, HR0.out, HR1.out, HR3.out, HR4.out, HR5.out, HR10.out, HR11.out, HR12.out, Out.binds, IsR]; (try rfl)
        refine AllReadyH.cons (o := _) rfl (fun K hK => ?_) AllReadyH.nil
        have HD17 : Below W.heap.size W (w14.alloc (Obj.cells #[.int .i64 0, .int .i64 0, .int .i64 0, .int .i64 0] 25)) := bal HD14 _
        go_simp
        refine hK.out _ _ (G0.out _ HD17) (fun hHeld => ?_)
        clear hK K
        try simp only [act_all]
        refine wpAnyH_ready (rs := [5]) (by kernel_rfl) (by simp) ?_
        refine AllReadyH.cons (o := _) rfl (fun K hK => ?_) AllReadyH.nil
        go_simp
        refine (mulRect_any A1 A2 0 0 u1 u2 u3 u4 _ HO1.out h0k.out HO3.out.1 HO3.out.2).mono ?_
        rintro e w18 ⟨he, hb⟩
        have HD18 : Below W.heap.size W w18 := Below.trans HD17 (hb.mono HD17.size)
        have hz18 := HD18.size
        have DA18 := HB0.out.trans (HD18.mono (show w.heap.size ≤ W.heap.size by omega))
        have t18_0_0 := (hb.cell (p := ⟨w14.heap.size, 0, none⟩) (by first | omega | (simp; done) | (simp; omega))).trans (by go_cell : _ = some (.int .i64 0))
        have z18_0_0 := (hb.frozen (p := ⟨w14.heap.size, 0, none⟩) (by first | omega | (simp; done) | (simp; omega))).trans (by go_cell : _ = false)
        have t18_0_1 := (hb.cell (p := ⟨w14.heap.size, 1, none⟩) (by first | omega | (simp; done) | (simp; omega))).trans (by go_cell : _ = some (.int .i64 0))
        have z18_0_1 := (hb.frozen (p := ⟨w14.heap.size, 1, none⟩) (by first | omega | (simp; done) | (simp; omega))).trans (by go_cell : _ = false)
        have t18_0_2 := (hb.cell (p := ⟨w14.heap.size, 2, none⟩) (by first | omega | (simp; done) | (simp; omega))).trans (by go_cell : _ = some (.int .i64 0))
        have z18_0_2 := (hb.frozen (p := ⟨w14.heap.size, 2, none⟩) (by first | omega | (simp; done) | (simp; omega))).trans (by go_cell : _ = false)
        have t18_0_3 := (hb.cell (p := ⟨w14.heap.size, 3, none⟩) (by first | omega | (simp; done) | (simp; omega))).trans (by go_cell : _ = some (.int .i64 0))
        have z18_0_3 := (hb.frozen (p := ⟨w14.heap.size, 3, none⟩) (by first | omega | (simp; done) | (simp; omega))).trans (by go_cell : _ = false)
        have l18_0 : w14.heap.size < w18.heap.size := by have hs := hb.size; (try simp at hs); omega
        clear hb hHeld
        obtain ⟨r, hr⟩ : ∃ r, (mulR ⟨⟨A1, A2⟩, ⟨0, 0⟩⟩ ⟨⟨u1, u2⟩, ⟨u3, u4⟩⟩) = r := ⟨_, rfl⟩
        rw [hr] at he
        have HR4 := Lib.hid hr
        clear hr
        rcases r with ⟨⟨v1, v2⟩, ⟨v3, v4⟩⟩ | k
        case' bad =>
          obtain rfl : e = .panicked [{ v := .iface 26 (.int .i64 k), recovered := false }] := he
          refine ⟨rfl, ?_, by go_grown⟩
          rw [← HSP.out]; simp only [ringS, HR0.out, HR1.out, HR3.out, HR4.out, Out.binds, IsR]; (try rfl)
        obtain rfl : e = .returned (.agg #[.int .i64 v1, .int .i64 v2, .int .i64 v3, .int .i64 v4]) := he
        have HO4 := Lib.hid ((okR_iff _).1 (mulR_ok HR4.out))
        refine hK.out _ _ (G0.out _ HD18) (fun hHeld => ?_)
        clear hK K
        try simp only [act_all]
        refine wpAnyH_ready (rs := [7]) (by kernel_rfl) (by simp) ?_
        refine AllReadyH.cons (o := _) rfl (fun K hK => ?_) AllReadyH.nil
        obtain ⟨_, _⟩ := G0.out _ HD18
        obtain ⟨_, _, _, _, _, _, _, _, _, _, _, _⟩ := G1.out _ HD18
        have nb0 : g2 < w18.heap.size := by omega
        have nx0 : ¬ w14.heap.size = g2 := by omega
        have nb1 : g3 < w18.heap.size := by omega
        have nx1 : ¬ w14.heap.size = g3 := by omega
        go_simp
        refine hK.out _ _ (by refine ⟨?_, ?_⟩ <;> go_cell) (fun hHeld => ?_)
        clear hK K
        try simp only [act_all]
        refine wpAnyH_done (by kernel_rfl) ?_ _
        go_upto_region 3 with fail
        have nq1 : CB < w18.heap.size := by omega
        have nq2 : w.heap.size < w18.heap.size := by omega
        have DE : Below w.heap.size w ((((w18.setCell ⟨w14.heap.size, 0, none⟩ (.int .i64 v1)).setCell ⟨w14.heap.size, 1, none⟩ (.int .i64 v2)).setCell ⟨w14.heap.size, 2, none⟩ (.int .i64 v3)).setCell ⟨w14.heap.size, 3, none⟩ (.int .i64 v4)) := ((((DA18).setCell (p := ⟨w14.heap.size, 0, none⟩) (by simp only; omega) (.int .i64 v1)).setCell (p := ⟨w14.heap.size, 1, none⟩) (by simp only; omega) (.int .i64 v2)).setCell (p := ⟨w14.heap.size, 2, none⟩) (by simp only; omega) (.int .i64 v3)).setCell (p := ⟨w14.heap.size, 3, none⟩) (by simp only; omega) (.int .i64 v4)
        have yr0 : ((((w18.setCell ⟨w14.heap.size, 0, none⟩ (.int .i64 v1)).setCell ⟨w14.heap.size, 1, none⟩ (.int .i64 v2)).setCell ⟨w14.heap.size, 2, none⟩ (.int .i64 v3)).setCell ⟨w14.heap.size, 3, none⟩ (.int .i64 v4)).cell? ⟨w.heap.size, 0, none⟩ = some (.int .i64 0) := by go_cell
        have fyr0 : ((((w18.setCell ⟨w14.heap.size, 0, none⟩ (.int .i64 v1)).setCell ⟨w14.heap.size, 1, none⟩ (.int .i64 v2)).setCell ⟨w14.heap.size, 2, none⟩ (.int .i64 v3)).setCell ⟨w14.heap.size, 3, none⟩ (.int .i64 v4)).frozen? ⟨w.heap.size, 0, none⟩ = false := by go_cell
        have yr1 : ((((w18.setCell ⟨w14.heap.size, 0, none⟩ (.int .i64 v1)).setCell ⟨w14.heap.size, 1, none⟩ (.int .i64 v2)).setCell ⟨w14.heap.size, 2, none⟩ (.int .i64 v3)).setCell ⟨w14.heap.size, 3, none⟩ (.int .i64 v4)).cell? ⟨w.heap.size, 1, none⟩ = some (.int .i64 0) := by go_cell
        have fyr1 : ((((w18.setCell ⟨w14.heap.size, 0, none⟩ (.int .i64 v1)).setCell ⟨w14.heap.size, 1, none⟩ (.int .i64 v2)).setCell ⟨w14.heap.size, 2, none⟩ (.int .i64 v3)).setCell ⟨w14.heap.size, 3, none⟩ (.int .i64 v4)).frozen? ⟨w.heap.size, 1, none⟩ = false := by go_cell
        have yr2 : ((((w18.setCell ⟨w14.heap.size, 0, none⟩ (.int .i64 v1)).setCell ⟨w14.heap.size, 1, none⟩ (.int .i64 v2)).setCell ⟨w14.heap.size, 2, none⟩ (.int .i64 v3)).setCell ⟨w14.heap.size, 3, none⟩ (.int .i64 v4)).cell? ⟨w.heap.size, 2, none⟩ = some (.int .i64 0) := by go_cell
        have fyr2 : ((((w18.setCell ⟨w14.heap.size, 0, none⟩ (.int .i64 v1)).setCell ⟨w14.heap.size, 1, none⟩ (.int .i64 v2)).setCell ⟨w14.heap.size, 2, none⟩ (.int .i64 v3)).setCell ⟨w14.heap.size, 3, none⟩ (.int .i64 v4)).frozen? ⟨w.heap.size, 2, none⟩ = false := by go_cell
        have yr3 : ((((w18.setCell ⟨w14.heap.size, 0, none⟩ (.int .i64 v1)).setCell ⟨w14.heap.size, 1, none⟩ (.int .i64 v2)).setCell ⟨w14.heap.size, 2, none⟩ (.int .i64 v3)).setCell ⟨w14.heap.size, 3, none⟩ (.int .i64 v4)).cell? ⟨w.heap.size, 3, none⟩ = some (.int .i64 0) := by go_cell
        have fyr3 : ((((w18.setCell ⟨w14.heap.size, 0, none⟩ (.int .i64 v1)).setCell ⟨w14.heap.size, 1, none⟩ (.int .i64 v2)).setCell ⟨w14.heap.size, 2, none⟩ (.int .i64 v3)).setCell ⟨w14.heap.size, 3, none⟩ (.int .i64 v4)).frozen? ⟨w.heap.size, 3, none⟩ = false := by go_cell
        have yc0 : ((((w18.setCell ⟨w14.heap.size, 0, none⟩ (.int .i64 v1)).setCell ⟨w14.heap.size, 1, none⟩ (.int .i64 v2)).setCell ⟨w14.heap.size, 2, none⟩ (.int .i64 v3)).setCell ⟨w14.heap.size, 3, none⟩ (.int .i64 v4)).cell? ⟨CB, 0, none⟩ = some (.int .i64 T1) := by go_cell
        have yc1 : ((((w18.setCell ⟨w14.heap.size, 0, none⟩ (.int .i64 v1)).setCell ⟨w14.heap.size, 1, none⟩ (.int .i64 v2)).setCell ⟨w14.heap.size, 2, none⟩ (.int .i64 v3)).setCell ⟨w14.heap.size, 3, none⟩ (.int .i64 v4)).cell? ⟨CB, 1, none⟩ = some (.int .i64 T2) := by go_cell
        have yc2 : ((((w18.setCell ⟨w14.heap.size, 0, none⟩ (.int .i64 v1)).setCell ⟨w14.heap.size, 1, none⟩ (.int .i64 v2)).setCell ⟨w14.heap.size, 2, none⟩ (.int .i64 v3)).setCell ⟨w14.heap.size, 3, none⟩ (.int .i64 v4)).cell? ⟨CB, 2, none⟩ = some (.int .i64 0) := by go_cell
        have yc3 : ((((w18.setCell ⟨w14.heap.size, 0, none⟩ (.int .i64 v1)).setCell ⟨w14.heap.size, 1, none⟩ (.int .i64 v2)).setCell ⟨w14.heap.size, 2, none⟩ (.int .i64 v3)).setCell ⟨w14.heap.size, 3, none⟩ (.int .i64 v4)).cell? ⟨CB, 3, none⟩ = some (.int .i64 0) := by go_cell
        have yv0 : ((((w18.setCell ⟨w14.heap.size, 0, none⟩ (.int .i64 v1)).setCell ⟨w14.heap.size, 1, none⟩ (.int .i64 v2)).setCell ⟨w14.heap.size, 2, none⟩ (.int .i64 v3)).setCell ⟨w14.heap.size, 3, none⟩ (.int .i64 v4)).cell? ⟨w14.heap.size, 0, none⟩ = some (.int .i64 v1) := by go_cell
        have yv1 : ((((w18.setCell ⟨w14.heap.size, 0, none⟩ (.int .i64 v1)).setCell ⟨w14.heap.size, 1, none⟩ (.int .i64 v2)).setCell ⟨w14.heap.size, 2, none⟩ (.int .i64 v3)).setCell ⟨w14.heap.size, 3, none⟩ (.int .i64 v4)).cell? ⟨w14.heap.size, 1, none⟩ = some (.int .i64 v2) := by go_cell
        have yv2 : ((((w18.setCell ⟨w14.heap.size, 0, none⟩ (.int .i64 v1)).setCell ⟨w14.heap.size, 1, none⟩ (.int .i64 v2)).setCell ⟨w14.heap.size, 2, none⟩ (.int .i64 v3)).setCell ⟨w14.heap.size, 3, none⟩ (.int .i64 v4)).cell? ⟨w14.heap.size, 2, none⟩ = some (.int .i64 v3) := by go_cell
        have yv3 : ((((w18.setCell ⟨w14.heap.size, 0, none⟩ (.int .i64 v1)).setCell ⟨w14.heap.size, 1, none⟩ (.int .i64 v2)).setCell ⟨w14.heap.size, 2, none⟩ (.int .i64 v3)).setCell ⟨w14.heap.size, 3, none⟩ (.int .i64 v4)).cell? ⟨w14.heap.size, 3, none⟩ = some (.int .i64 v4) := by go_cell
        have sE1 : w14.heap.size < ((((w18.setCell ⟨w14.heap.size, 0, none⟩ (.int .i64 v1)).setCell ⟨w14.heap.size, 1, none⟩ (.int .i64 v2)).setCell ⟨w14.heap.size, 2, none⟩ (.int .i64 v3)).setCell ⟨w14.heap.size, 3, none⟩ (.int .i64 v4)).heap.size := by first | (simp; done) | (simp; omega)
        have sE2 : CB < ((((w18.setCell ⟨w14.heap.size, 0, none⟩ (.int .i64 v1)).setCell ⟨w14.heap.size, 1, none⟩ (.int .i64 v2)).setCell ⟨w14.heap.size, 2, none⟩ (.int .i64 v3)).setCell ⟨w14.heap.size, 3, none⟩ (.int .i64 v4)).heap.size := by first | (simp; done) | (simp; omega)
        have sE3 : w.heap.size < ((((w18.setCell ⟨w14.heap.size, 0, none⟩ (.int .i64 v1)).setCell ⟨w14.heap.size, 1, none⟩ (.int .i64 v2)).setCell ⟨w14.heap.size, 2, none⟩ (.int .i64 v3)).setCell ⟨w14.heap.size, 3, none⟩ (.int .i64 v4)).heap.size := by first | (simp; done) | (simp; omega)
        clear hHeld
        generalize ((((w18.setCell ⟨w14.heap.size, 0, none⟩ (.int .i64 v1)).setCell ⟨w14.heap.size, 1, none⟩ (.int .i64 v2)).setCell ⟨w14.heap.size, 2, none⟩ (.int .i64 v3)).setCell ⟨w14.heap.size, 3, none⟩ (.int .i64 v4)) = V at *
        generalize w14.heap.size = XB at *
        go_wp2_with fail
        refine (subRect_any T1 T2 0 0 v1 v2 v3 v4 _ HO0.out h0k.out HO4.out.1 HO4.out.2).mono ?_
        rintro e w5 ⟨he, hb⟩
        have D5 : Below w.heap.size w w5 := DE.trans (hb.mono (by omega))
        have hs5 := hb.size
        obtain ⟨k1, k2⟩ := bcl hb
        have qr0 := (k1 (w.heap.size) 0 (by first | omega | (simp; done) | (simp; omega))).trans yr0
        have fqr0 := (k2 (w.heap.size) 0 (by first | omega | (simp; done) | (simp; omega))).trans fyr0
        have qr1 := (k1 (w.heap.size) 1 (by first | omega | (simp; done) | (simp; omega))).trans yr1
        have fqr1 := (k2 (w.heap.size) 1 (by first | omega | (simp; done) | (simp; omega))).trans fyr1
        have qr2 := (k1 (w.heap.size) 2 (by first | omega | (simp; done) | (simp; omega))).trans yr2
        have fqr2 := (k2 (w.heap.size) 2 (by first | omega | (simp; done) | (simp; omega))).trans fyr2
        have qr3 := (k1 (w.heap.size) 3 (by first | omega | (simp; done) | (simp; omega))).trans yr3
        have fqr3 := (k2 (w.heap.size) 3 (by first | omega | (simp; done) | (simp; omega))).trans fyr3
        have qc0 := (k1 (CB) 0 (by first | omega | (simp; done) | (simp; omega))).trans yc0
        have qc1 := (k1 (CB) 1 (by first | omega | (simp; done) | (simp; omega))).trans yc1
        have qc2 := (k1 (CB) 2 (by first | omega | (simp; done) | (simp; omega))).trans yc2
        have qc3 := (k1 (CB) 3 (by first | omega | (simp; done) | (simp; omega))).trans yc3
        have qv0 := (k1 (XB) 0 (by first | omega | (simp; done) | (simp; omega))).trans yv0
        have qv1 := (k1 (XB) 1 (by first | omega | (simp; done) | (simp; omega))).trans yv1
        have qv2 := (k1 (XB) 2 (by first | omega | (simp; done) | (simp; omega))).trans yv2
        have qv3 := (k1 (XB) 3 (by first | omega | (simp; done) | (simp; omega))).trans yv3
        clear k1 k2
        clear hb DE yr0 fyr0 yr1 fyr1 yr2 fyr2 yr3 fyr3 yc0 yc1 yc2 yc3 yv0 yv1 yv2 yv3
        obtain ⟨r, hr⟩ : ∃ r, (subR ⟨⟨T1, T2⟩, ⟨0, 0⟩⟩ ⟨⟨v1, v2⟩, ⟨v3, v4⟩⟩) = r := ⟨_, rfl⟩
        rw [hr] at he
        have HR5 := Lib.hid hr
        clear hr
        rcases r with ⟨⟨z1, z2⟩, ⟨z3, z4⟩⟩ | k
        case' bad =>
          obtain rfl : e = .panicked [{ v := .iface 26 (.int .i64 k), recovered := false }] := he
          go_wp2_with fail
          refine ⟨rfl, ?_, by go_grown⟩
          rw [← HSP.out]; simp only [ringS, HR0.out, HR1.out, HR3.out, HR4.out, HR5.out, Out.binds, IsR]; (try rfl)
        obtain rfl : e = .returned (.agg #[.int .i64 z1, .int .i64 z2, .int .i64 z3, .int .i64 z4]) := he
        have HO5 := Lib.hid ((okR_iff _).1 (subR_ok HR5.out))
        go_upto_region 4 with fail
        have nr1 : CB < w5.heap.size := by omega
        have nr2 : XB < w5.heap.size := by omega
        have nr3 : w.heap.size < w5.heap.size := by omega
        have xr0 : (w5.alloc (Obj.cells #[.int .i64 z1, .int .i64 z2, .int .i64 z3, .int .i64 z4] 25)).cell? ⟨w.heap.size, 0, none⟩ = some (.int .i64 0) := by go_cell
        have fxr0 : (w5.alloc (Obj.cells #[.int .i64 z1, .int .i64 z2, .int .i64 z3, .int .i64 z4] 25)).frozen? ⟨w.heap.size, 0, none⟩ = false := by go_cell
        have xr1 : (w5.alloc (Obj.cells #[.int .i64 z1, .int .i64 z2, .int .i64 z3, .int .i64 z4] 25)).cell? ⟨w.heap.size, 1, none⟩ = some (.int .i64 0) := by go_cell
        have fxr1 : (w5.alloc (Obj.cells #[.int .i64 z1, .int .i64 z2, .int .i64 z3, .int .i64 z4] 25)).frozen? ⟨w.heap.size, 1, none⟩ = false := by go_cell
        have xr2 : (w5.alloc (Obj.cells #[.int .i64 z1, .int .i64 z2, .int .i64 z3, .int .i64 z4] 25)).cell? ⟨w.heap.size, 2, none⟩ = some (.int .i64 0) := by go_cell
        have fxr2 : (w5.alloc (Obj.cells #[.int .i64 z1, .int .i64 z2, .int .i64 z3, .int .i64 z4] 25)).frozen? ⟨w.heap.size, 2, none⟩ = false := by go_cell
        have xr3 : (w5.alloc (Obj.cells #[.int .i64 z1, .int .i64 z2, .int .i64 z3, .int .i64 z4] 25)).cell? ⟨w.heap.size, 3, none⟩ = some (.int .i64 0) := by go_cell
        have fxr3 : (w5.alloc (Obj.cells #[.int .i64 z1, .int .i64 z2, .int .i64 z3, .int .i64 z4] 25)).frozen? ⟨w.heap.size, 3, none⟩ = false := by go_cell
        have xc0 : (w5.alloc (Obj.cells #[.int .i64 z1, .int .i64 z2, .int .i64 z3, .int .i64 z4] 25)).cell? ⟨CB, 0, none⟩ = some (.int .i64 T1) := by go_cell
        have xc1 : (w5.alloc (Obj.cells #[.int .i64 z1, .int .i64 z2, .int .i64 z3, .int .i64 z4] 25)).cell? ⟨CB, 1, none⟩ = some (.int .i64 T2) := by go_cell
        have xc2 : (w5.alloc (Obj.cells #[.int .i64 z1, .int .i64 z2, .int .i64 z3, .int .i64 z4] 25)).cell? ⟨CB, 2, none⟩ = some (.int .i64 0) := by go_cell
        have xc3 : (w5.alloc (Obj.cells #[.int .i64 z1, .int .i64 z2, .int .i64 z3, .int .i64 z4] 25)).cell? ⟨CB, 3, none⟩ = some (.int .i64 0) := by go_cell
        have xv0 : (w5.alloc (Obj.cells #[.int .i64 z1, .int .i64 z2, .int .i64 z3, .int .i64 z4] 25)).cell? ⟨XB, 0, none⟩ = some (.int .i64 v1) := by go_cell
        have xv1 : (w5.alloc (Obj.cells #[.int .i64 z1, .int .i64 z2, .int .i64 z3, .int .i64 z4] 25)).cell? ⟨XB, 1, none⟩ = some (.int .i64 v2) := by go_cell
        have xv2 : (w5.alloc (Obj.cells #[.int .i64 z1, .int .i64 z2, .int .i64 z3, .int .i64 z4] 25)).cell? ⟨XB, 2, none⟩ = some (.int .i64 v3) := by go_cell
        have xv3 : (w5.alloc (Obj.cells #[.int .i64 z1, .int .i64 z2, .int .i64 z3, .int .i64 z4] 25)).cell? ⟨XB, 3, none⟩ = some (.int .i64 v4) := by go_cell
        have xz0 : (w5.alloc (Obj.cells #[.int .i64 z1, .int .i64 z2, .int .i64 z3, .int .i64 z4] 25)).cell? ⟨w5.heap.size, 0, none⟩ = some (.int .i64 z1) := by go_cell
        have xz1 : (w5.alloc (Obj.cells #[.int .i64 z1, .int .i64 z2, .int .i64 z3, .int .i64 z4] 25)).cell? ⟨w5.heap.size, 1, none⟩ = some (.int .i64 z2) := by go_cell
        have xz2 : (w5.alloc (Obj.cells #[.int .i64 z1, .int .i64 z2, .int .i64 z3, .int .i64 z4] 25)).cell? ⟨w5.heap.size, 2, none⟩ = some (.int .i64 z3) := by go_cell
        have xz3 : (w5.alloc (Obj.cells #[.int .i64 z1, .int .i64 z2, .int .i64 z3, .int .i64 z4] 25)).cell? ⟨w5.heap.size, 3, none⟩ = some (.int .i64 z4) := by go_cell
        have DE : Below w.heap.size w (w5.alloc (Obj.cells #[.int .i64 z1, .int .i64 z2, .int .i64 z3, .int .i64 z4] 25)) := D5.alloc (by omega) _
        have sF : w5.heap.size < (w5.alloc (Obj.cells #[.int .i64 z1, .int .i64 z2, .int .i64 z3, .int .i64 z4] 25)).heap.size := by simp
        clear qr0 fqr0 qr1 fqr1 qr2 fqr2 qr3 fqr3 qc0 qc1 qc2 qc3 qv0 qv1 qv2 qv3
        generalize (w5.alloc (Obj.cells #[.int .i64 z1, .int .i64 z2, .int .i64 z3, .int .i64 z4] 25)) = V' at *
        generalize w5.heap.size = ZB at *
        have J0 : Hid (∀ w', Below V'.heap.size V' w' → w'.cell? ⟨ZB, 0, none⟩ = some (.int .i64 z1) ∧ w'.cell? ⟨ZB, 1, none⟩ = some (.int .i64 z2) ∧ w'.cell? ⟨ZB, 2, none⟩ = some (.int .i64 z3) ∧ w'.cell? ⟨ZB, 3, none⟩ = some (.int .i64 z4) ∧ w'.cell? ⟨CB, 0, none⟩ = some (.int .i64 T1) ∧ w'.cell? ⟨CB, 1, none⟩ = some (.int .i64 T2) ∧ w'.cell? ⟨CB, 2, none⟩ = some (.int .i64 0) ∧ w'.cell? ⟨CB, 3, none⟩ = some (.int .i64 0) ∧ w'.cell? ⟨XB, 0, none⟩ = some (.int .i64 v1) ∧ w'.cell? ⟨XB, 1, none⟩ = some (.int .i64 v2) ∧ w'.cell? ⟨XB, 2, none⟩ = some (.int .i64 v3) ∧ w'.cell? ⟨XB, 3, none⟩ = some (.int .i64 v4)) := Lib.hid (fun w' hb => by
          have ez := fun o' => hb.cell (p := ⟨ZB, o', none⟩) (by simp only; omega)
          have ec := fun o' => hb.cell (p := ⟨CB, o', none⟩) (by simp only; omega)
          have ev := fun o' => hb.cell (p := ⟨XB, o', none⟩) (by simp only; omega)
          exact ⟨(ez _).trans xz0, (ez _).trans xz1, (ez _).trans xz2, (ez _).trans xz3, (ec _).trans xc0, (ec _).trans xc1, (ec _).trans xc2, (ec _).trans xc3, (ev _).trans xv0, (ev _).trans xv1, (ev _).trans xv2, (ev _).trans xv3⟩)
        have J1 : Hid (∀ w', Below V'.heap.size V' w' → w'.cell? ⟨w.heap.size, 0, none⟩ = some (.int .i64 0) ∧ w'.cell? ⟨w.heap.size, 1, none⟩ = some (.int .i64 0) ∧ w'.cell? ⟨w.heap.size, 2, none⟩ = some (.int .i64 0) ∧ w'.cell? ⟨w.heap.size, 3, none⟩ = some (.int .i64 0) ∧ w'.frozen? ⟨w.heap.size, 0, none⟩ = false ∧ w'.frozen? ⟨w.heap.size, 1, none⟩ = false ∧ w'.frozen? ⟨w.heap.size, 2, none⟩ = false ∧ w'.frozen? ⟨w.heap.size, 3, none⟩ = false) := Lib.hid (fun w' hb => by
          have er := fun o' => hb.cell (p := ⟨w.heap.size, o', none⟩) (by simp only; omega)
          have efr := fun o' => hb.frozen (p := ⟨w.heap.size, o', none⟩) (by simp only; omega)
          exact ⟨(er _).trans xr0, (er _).trans xr1, (er _).trans xr2, (er _).trans xr3, (efr _).trans fxr0, (efr _).trans fxr1, (efr _).trans fxr2, (efr _).trans fxr3⟩)
        have HD : Below V'.heap.size V' V' := Below.refl _ _
        have K0 := Lib.hid DE
        clear DE xz0 xz1 xz2 xz3 xc0 xc1 xc2 xc3 xv0 xv1 xv2 xv3 xr0 fxr0 xr1 fxr1 xr2 fxr2 xr3 fxr3
        have HD31 : Below V'.heap.size V' V'.drew := HD.drew
        refine wp_region_held_drew (S := fun w' => w'.cell? ⟨ZB, 0, none⟩ = some (.int .i64 z1) ∧ w'.cell? ⟨ZB, 1, none⟩ = some (.int .i64 z2) ∧ w'.cell? ⟨ZB, 2, none⟩ = some (.int .i64 z3) ∧ w'.cell? ⟨ZB, 3, none⟩ = some (.int .i64 z4) ∧ w'.cell? ⟨CB, 0, none⟩ = some (.int .i64 T1) ∧ w'.cell? ⟨CB, 1, none⟩ = some (.int .i64 T2) ∧ w'.cell? ⟨CB, 2, none⟩ = some (.int .i64 0) ∧ w'.cell? ⟨CB, 3, none⟩ = some (.int .i64 0) ∧ w'.cell? ⟨XB, 0, none⟩ = some (.int .i64 v1) ∧ w'.cell? ⟨XB, 1, none⟩ = some (.int .i64 v2) ∧ w'.cell? ⟨XB, 2, none⟩ = some (.int .i64 v3) ∧ w'.cell? ⟨XB, 3, none⟩ = some (.int .i64 v4)) (by kernel_rfl) (J0.out _ HD31) (fun hHeld => ?_)
        refine wpAnyH_take (i := 0) (oi := _) (v := ?_) rfl (by kernel_rfl) (by kernel_rfl) (by kernel_rfl) (fun _ _ _ h => h) (Or.inl ⟨by rfl, ?_⟩) (by assumption) ?_
        rotate_left
        · intro w hSw; obtain ⟨_, _, _, _, _, _, _, _, _, _, _, _⟩ := hSw; go_simp; (try with_reducible rfl)
        try change wpAnyH _ _ _ _ _ _ _ (Act.put _ (some 19) _) _
        try simp only [act_all]
        refine wpAnyH_take (i := 3) (oi := _) (v := ?_) rfl (by kernel_rfl) (by kernel_rfl) (by kernel_rfl) (fun _ _ _ h => h) (Or.inl ⟨by rfl, ?_⟩) (by assumption) ?_
        rotate_left
        · intro w hSw; obtain ⟨_, _, _, _, _, _, _, _, _, _, _, _⟩ := hSw; go_simp; (try with_reducible rfl)
        try change wpAnyH _ _ _ _ _ _ _ (Act.put _ (some 22) _) _
        try simp only [act_all]
        refine wpAnyH_take (i := 4) (oi := _) (v := ?_) rfl (by kernel_rfl) (by kernel_rfl) (by kernel_rfl) (fun _ _ _ h => h) (Or.inl ⟨by rfl, ?_⟩) (by assumption) ?_
        rotate_left
        · intro w hSw; obtain ⟨_, _, _, _, _, _, _, _, _, _, _, _⟩ := hSw; go_simp; (try with_reducible rfl)
        try change wpAnyH _ _ _ _ _ _ _ (Act.put _ (some 23) _) _
        try simp only [act_all]
        refine wpAnyH_ready (rs := [1]) (by kernel_rfl) (by simp) ?_
        refine AllReadyH.cons (o := _) rfl (fun K hK => ?_) AllReadyH.nil
        go_simp
        refine ((whole_any 1 _ (by omega) (by omega)).mono (fun e w' h => (by rw [show (1 : Int) * 1073741824 = 1073741824 from rfl] at h; exact h : e = retS ⟨1073741824, 1073741824⟩ ∧ Below _ _ w'))).mono ?_
        rintro e w32 ⟨he, hb⟩
        have HD32 : Below V'.heap.size V' w32 := Below.trans HD31 (hb.mono HD31.size)
        have hz32 := HD32.size
        have DA32 := K0.out.trans (HD32.mono (show w.heap.size ≤ V'.heap.size by omega))
        clear hb hHeld
        obtain rfl : e = .returned (.agg #[.int .i64 1073741824, .int .i64 1073741824]) := he
        refine hK.out _ _ (J0.out _ HD32) (fun hHeld => ?_)
        clear hK K
        try simp only [act_all]
        refine wpAnyH_ready (rs := [2]) (by kernel_rfl) (by simp) ?_
        refine AllReadyH.cons (o := _) rfl (fun K hK => ?_) AllReadyH.nil
        go_simp
        refine (onAxis_any 1073741824 1073741824 _).mono ?_
        rintro e w33 ⟨he, hb⟩
        have HD33 : Below V'.heap.size V' w33 := Below.trans HD32 (hb.mono HD32.size)
        have hz33 := HD33.size
        have DA33 := K0.out.trans (HD33.mono (show w.heap.size ≤ V'.heap.size by omega))
        clear hb hHeld
        obtain rfl : e = .returned (.agg #[.int .i64 1073741824, .int .i64 1073741824, .int .i64 0, .int .i64 0]) := he
        refine hK.out _ _ (J0.out _ HD33) (fun hHeld => ?_)
        clear hK K
        try simp only [act_all]
        refine wpAnyH_ready (rs := [5]) (by kernel_rfl) (by simp) ?_
        refine AllReadyH.cons (o := _) rfl (fun K hK => ?_) AllReadyH.nil
        go_simp
        refine (mulRect_any T1 T2 0 0 v1 v2 v3 v4 _ HO0.out h0k.out HO4.out.1 HO4.out.2).mono ?_
        rintro e w34 ⟨he, hb⟩
        have HD34 : Below V'.heap.size V' w34 := Below.trans HD33 (hb.mono HD33.size)
        have hz34 := HD34.size
        have DA34 := K0.out.trans (HD34.mono (show w.heap.size ≤ V'.heap.size by omega))
        clear hb hHeld
        obtain ⟨r, hr⟩ : ∃ r, (mulR ⟨⟨T1, T2⟩, ⟨0, 0⟩⟩ ⟨⟨v1, v2⟩, ⟨v3, v4⟩⟩) = r := ⟨_, rfl⟩
        rw [hr] at he
        have HR10 := Lib.hid hr
        clear hr
        rcases r with ⟨⟨x1, x2⟩, ⟨x3, x4⟩⟩ | k
        case' bad =>
          obtain rfl : e = .panicked [{ v := .iface 26 (.int .i64 k), recovered := false }] := he
          refine ⟨rfl, ?_, by go_grown⟩
          rw [← HSP.out]; simp only [ringS, HR0.out, HR1.out, HR3.out, HR4.out, HR5.out, HR10.out, Out.binds, IsR]; (try rfl)
        obtain rfl : e = .returned (.agg #[.int .i64 x1, .int .i64 x2, .int .i64 x3, .int .i64 x4]) := he
        have HO10 := Lib.hid ((okR_iff _).1 (mulR_ok HR10.out))
        refine hK.out _ _ (J0.out _ HD34) (fun hHeld => ?_)
        clear hK K
        try simp only [act_all]
        refine wpAnyH_ready (rs := [6]) (by kernel_rfl) (by simp) ?_
        refine AllReadyH.cons (o := _) rfl (fun K hK => ?_) AllReadyH.nil
        go_simp
        refine (subRect_any 1073741824 1073741824 0 0 x1 x2 x3 x4 _ h1k.out h0k.out HO10.out.1 HO10.out.2).mono ?_
        rintro e w35 ⟨he, hb⟩
        have HD35 : Below V'.heap.size V' w35 := Below.trans HD34 (hb.mono HD34.size)
        have hz35 := HD35.size
        have DA35 := K0.out.trans (HD35.mono (show w.heap.size ≤ V'.heap.size by omega))
        clear hb hHeld
        obtain ⟨r, hr⟩ : ∃ r, (subR ⟨⟨1073741824, 1073741824⟩, ⟨0, 0⟩⟩ ⟨⟨x1, x2⟩, ⟨x3, x4⟩⟩) = r := ⟨_, rfl⟩
        rw [hr] at he
        have HR11 := Lib.hid hr
        clear hr
        rcases r with ⟨⟨d1, d2⟩, ⟨d3, d4⟩⟩ | k
        case' bad =>
          obtain rfl : e = .panicked [{ v := .iface 26 (.int .i64 k), recovered := false }] := he
          refine ⟨rfl, ?_, by go_grown⟩
          rw [← HSP.out]; simp only [ringS, HR0.out, HR1.out, HR3.out, HR4.out, HR5.out, HR10.out, HR11.out, Out.binds, IsR]; (try rfl)
        obtain rfl : e = .returned (.agg #[.int .i64 d1, .int .i64 d2, .int .i64 d3, .int .i64 d4]) := he
        have HO11 := Lib.hid ((okR_iff _).1 (subR_ok HR11.out))
        refine hK.out _ _ (J0.out _ HD35) (fun hHeld => ?_)
        clear hK K
        try simp only [act_all]
        refine wpAnyH_ready (rs := [7]) (by kernel_rfl) (by simp) ?_
        refine AllReadyH.cons (o := _) rfl (fun K hK => ?_) AllReadyH.nil
        go_simp
        refine (divRect_any z1 z2 z3 z4 d1 d2 d3 d4 _ HO5.out.1 HO5.out.2 HO11.out.1 HO11.out.2).mono ?_
        rintro e w36 ⟨he, hb⟩
        have HD36 : Below V'.heap.size V' w36 := Below.trans HD35 (hb.mono HD35.size)
        have hz36 := HD36.size
        have DA36 := K0.out.trans (HD36.mono (show w.heap.size ≤ V'.heap.size by omega))
        clear hb hHeld
        obtain ⟨r, hr⟩ : ∃ r, (divR ⟨⟨z1, z2⟩, ⟨z3, z4⟩⟩ ⟨⟨d1, d2⟩, ⟨d3, d4⟩⟩) = r := ⟨_, rfl⟩
        rw [hr] at he
        have HR12 := Lib.hid hr
        clear hr
        rcases r with ⟨⟨p1, q1⟩, ⟨p2, q2⟩⟩ | k
        case' bad =>
          obtain rfl : e = .panicked [{ v := .iface 26 (.int .i64 k), recovered := false }] := he
          refine ⟨rfl, ?_, by go_grown⟩
          rw [← HSP.out]; simp only [ringS, HR0.out, HR1.out, HR3.out, HR4.out, HR5.out, HR10.out, HR11.out, HR12.out, Out.binds, IsR]; (try rfl)
        obtain rfl : e = .returned (.agg #[.int .i64 p1, .int .i64 q1, .int .i64 p2, .int .i64 q2]) := he
        refine hK.out _ _ (J0.out _ HD36) (fun hHeld => ?_)
        clear hK K
        try simp only [act_all]
        refine wpAnyH_ready (rs := [8]) (by kernel_rfl) (by simp) ?_
        refine AllReadyH.cons (o := _) rfl (fun K hK => ?_) AllReadyH.nil
        obtain ⟨_, _, _, _, _, _, _, _, _, _, _, _⟩ := J0.out _ HD36
        obtain ⟨_, _, _, _, _, _, _, _⟩ := J1.out _ HD36
        go_simp
        refine hK.out _ _ (by refine ⟨?_, ?_, ?_, ?_, ?_, ?_, ?_, ?_, ?_, ?_, ?_, ?_⟩ <;> go_cell) (fun hHeld => ?_)
        clear hK K
        try simp only [act_all]
        refine wpAnyH_done (by kernel_rfl) ?_ _
        go_wp2_with fail
        refine bodyPost_ret (v := .agg #[.int .i64 p1, .int .i64 q1, .int .i64 p2, .int .i64 q2]) (by simp [results, Try.results78, go_sem, *]) rfl ⟨?_, by go_grown⟩
        rw [← HSP.out]; simp only [ringS, HR0.out, HR1.out, HR3.out, HR4.out, HR5.out, HR10.out, HR11.out, HR12.out, Out.binds, IsR]; (try rfl)
      refine AllReadyH.cons (o := _) rfl (fun K hK => ?_) AllReadyH.nil
      have HD19 : Below W.heap.size W (w13.alloc (Obj.cells #[.int .i64 0, .int .i64 0, .int .i64 0, .int .i64 0] 25)) := bal HD13 _
      go_simp
      refine hK.out _ _ (G0.out _ HD19) (fun hHeld => ?_)
      clear hK K
      try simp only [act_all]
      refine wpAnyH_ready (rs := [4]) (by kernel_rfl) (by simp) ?_
      refine AllReadyH.cons (o := _) rfl (fun K hK => ?_) AllReadyH.nil
      go_simp
      refine (unit_any n _).mono ?_
      rintro e w20 ⟨he, hb⟩
      have HD20 : Below W.heap.size W w20 := Below.trans HD19 (hb.mono HD19.size)
      have hz20 := HD20.size
      have DA20 := HB0.out.trans (HD20.mono (show w.heap.size ≤ W.heap.size by omega))
      have t20_0_0 := (hb.cell (p := ⟨w13.heap.size, 0, none⟩) (by first | omega | (simp; done) | (simp; omega))).trans (by go_cell : _ = some (.int .i64 0))
      have z20_0_0 := (hb.frozen (p := ⟨w13.heap.size, 0, none⟩) (by first | omega | (simp; done) | (simp; omega))).trans (by go_cell : _ = false)
      have t20_0_1 := (hb.cell (p := ⟨w13.heap.size, 1, none⟩) (by first | omega | (simp; done) | (simp; omega))).trans (by go_cell : _ = some (.int .i64 0))
      have z20_0_1 := (hb.frozen (p := ⟨w13.heap.size, 1, none⟩) (by first | omega | (simp; done) | (simp; omega))).trans (by go_cell : _ = false)
      have t20_0_2 := (hb.cell (p := ⟨w13.heap.size, 2, none⟩) (by first | omega | (simp; done) | (simp; omega))).trans (by go_cell : _ = some (.int .i64 0))
      have z20_0_2 := (hb.frozen (p := ⟨w13.heap.size, 2, none⟩) (by first | omega | (simp; done) | (simp; omega))).trans (by go_cell : _ = false)
      have t20_0_3 := (hb.cell (p := ⟨w13.heap.size, 3, none⟩) (by first | omega | (simp; done) | (simp; omega))).trans (by go_cell : _ = some (.int .i64 0))
      have z20_0_3 := (hb.frozen (p := ⟨w13.heap.size, 3, none⟩) (by first | omega | (simp; done) | (simp; omega))).trans (by go_cell : _ = false)
      have l20_0 : w13.heap.size < w20.heap.size := by have hs := hb.size; (try simp at hs); omega
      clear hb hHeld
      obtain ⟨r, hr⟩ : ∃ r, (unitS n) = r := ⟨_, rfl⟩
      rw [hr] at he
      have HR3 := Lib.hid hr
      clear hr
      rcases r with ⟨⟨u1, u2⟩, ⟨u3, u4⟩⟩ | k
      case' bad =>
        obtain rfl : e = .panicked [{ v := .iface 26 (.int .i64 k), recovered := false }] := he
        refine ⟨rfl, ?_, by go_grown⟩
        rw [← HSP.out]; simp only [ringS, HR0.out, HR1.out, HR3.out, Out.binds, IsR]; (try rfl)
      obtain rfl : e = .returned (.agg #[.int .i64 u1, .int .i64 u2, .int .i64 u3, .int .i64 u4]) := he
      have HO3 := Lib.hid ((okR_iff _).1 (unitS_ok HR3.out))
      refine hK.out _ _ (G0.out _ HD20) (fun hHeld => ?_)
      clear hK K
      try simp only [act_all]
      refine wpAnyH_ready (rs := [5]) (by kernel_rfl) (by simp) ?_
      refine AllReadyH.cons (o := _) rfl (fun K hK => ?_) AllReadyH.nil
      go_simp
      refine (mulRect_any A1 A2 0 0 u1 u2 u3 u4 _ HO1.out h0k.out HO3.out.1 HO3.out.2).mono ?_
      rintro e w21 ⟨he, hb⟩
      have HD21 : Below W.heap.size W w21 := Below.trans HD20 (hb.mono HD20.size)
      have hz21 := HD21.size
      have DA21 := HB0.out.trans (HD21.mono (show w.heap.size ≤ W.heap.size by omega))
      have t21_0_0 := (hb.cell (p := ⟨w13.heap.size, 0, none⟩) (by first | omega | (simp; done) | (simp; omega))).trans (by go_cell : _ = some (.int .i64 0))
      have z21_0_0 := (hb.frozen (p := ⟨w13.heap.size, 0, none⟩) (by first | omega | (simp; done) | (simp; omega))).trans (by go_cell : _ = false)
      have t21_0_1 := (hb.cell (p := ⟨w13.heap.size, 1, none⟩) (by first | omega | (simp; done) | (simp; omega))).trans (by go_cell : _ = some (.int .i64 0))
      have z21_0_1 := (hb.frozen (p := ⟨w13.heap.size, 1, none⟩) (by first | omega | (simp; done) | (simp; omega))).trans (by go_cell : _ = false)
      have t21_0_2 := (hb.cell (p := ⟨w13.heap.size, 2, none⟩) (by first | omega | (simp; done) | (simp; omega))).trans (by go_cell : _ = some (.int .i64 0))
      have z21_0_2 := (hb.frozen (p := ⟨w13.heap.size, 2, none⟩) (by first | omega | (simp; done) | (simp; omega))).trans (by go_cell : _ = false)
      have t21_0_3 := (hb.cell (p := ⟨w13.heap.size, 3, none⟩) (by first | omega | (simp; done) | (simp; omega))).trans (by go_cell : _ = some (.int .i64 0))
      have z21_0_3 := (hb.frozen (p := ⟨w13.heap.size, 3, none⟩) (by first | omega | (simp; done) | (simp; omega))).trans (by go_cell : _ = false)
      have l21_0 : w13.heap.size < w21.heap.size := by have hs := hb.size; (try simp at hs); omega
      clear hb hHeld
      obtain ⟨r, hr⟩ : ∃ r, (mulR ⟨⟨A1, A2⟩, ⟨0, 0⟩⟩ ⟨⟨u1, u2⟩, ⟨u3, u4⟩⟩) = r := ⟨_, rfl⟩
      rw [hr] at he
      have HR4 := Lib.hid hr
      clear hr
      rcases r with ⟨⟨v1, v2⟩, ⟨v3, v4⟩⟩ | k
      case' bad =>
        obtain rfl : e = .panicked [{ v := .iface 26 (.int .i64 k), recovered := false }] := he
        refine ⟨rfl, ?_, by go_grown⟩
        rw [← HSP.out]; simp only [ringS, HR0.out, HR1.out, HR3.out, HR4.out, Out.binds, IsR]; (try rfl)
      obtain rfl : e = .returned (.agg #[.int .i64 v1, .int .i64 v2, .int .i64 v3, .int .i64 v4]) := he
      have HO4 := Lib.hid ((okR_iff _).1 (mulR_ok HR4.out))
      refine hK.out _ _ (G0.out _ HD21) (fun hHeld => ?_)
      clear hK K
      try simp only [act_all]
      refine wpAnyH_ready (rs := [7]) (by kernel_rfl) (by simp) ?_
      refine AllReadyH.cons (o := _) rfl (fun K hK => ?_) AllReadyH.nil
      obtain ⟨_, _⟩ := G0.out _ HD21
      obtain ⟨_, _, _, _, _, _, _, _, _, _, _, _⟩ := G1.out _ HD21
      have nb0 : g2 < w21.heap.size := by omega
      have nx0 : ¬ w13.heap.size = g2 := by omega
      have nb1 : g3 < w21.heap.size := by omega
      have nx1 : ¬ w13.heap.size = g3 := by omega
      go_simp
      refine hK.out _ _ (by refine ⟨?_, ?_⟩ <;> go_cell) (fun hHeld => ?_)
      clear hK K
      try simp only [act_all]
      refine wpAnyH_done (by kernel_rfl) ?_ _
      go_upto_region 3 with fail
      have nq1 : CB < w21.heap.size := by omega
      have nq2 : w.heap.size < w21.heap.size := by omega
      have DE : Below w.heap.size w ((((w21.setCell ⟨w13.heap.size, 0, none⟩ (.int .i64 v1)).setCell ⟨w13.heap.size, 1, none⟩ (.int .i64 v2)).setCell ⟨w13.heap.size, 2, none⟩ (.int .i64 v3)).setCell ⟨w13.heap.size, 3, none⟩ (.int .i64 v4)) := ((((DA21).setCell (p := ⟨w13.heap.size, 0, none⟩) (by simp only; omega) (.int .i64 v1)).setCell (p := ⟨w13.heap.size, 1, none⟩) (by simp only; omega) (.int .i64 v2)).setCell (p := ⟨w13.heap.size, 2, none⟩) (by simp only; omega) (.int .i64 v3)).setCell (p := ⟨w13.heap.size, 3, none⟩) (by simp only; omega) (.int .i64 v4)
      have yr0 : ((((w21.setCell ⟨w13.heap.size, 0, none⟩ (.int .i64 v1)).setCell ⟨w13.heap.size, 1, none⟩ (.int .i64 v2)).setCell ⟨w13.heap.size, 2, none⟩ (.int .i64 v3)).setCell ⟨w13.heap.size, 3, none⟩ (.int .i64 v4)).cell? ⟨w.heap.size, 0, none⟩ = some (.int .i64 0) := by go_cell
      have fyr0 : ((((w21.setCell ⟨w13.heap.size, 0, none⟩ (.int .i64 v1)).setCell ⟨w13.heap.size, 1, none⟩ (.int .i64 v2)).setCell ⟨w13.heap.size, 2, none⟩ (.int .i64 v3)).setCell ⟨w13.heap.size, 3, none⟩ (.int .i64 v4)).frozen? ⟨w.heap.size, 0, none⟩ = false := by go_cell
      have yr1 : ((((w21.setCell ⟨w13.heap.size, 0, none⟩ (.int .i64 v1)).setCell ⟨w13.heap.size, 1, none⟩ (.int .i64 v2)).setCell ⟨w13.heap.size, 2, none⟩ (.int .i64 v3)).setCell ⟨w13.heap.size, 3, none⟩ (.int .i64 v4)).cell? ⟨w.heap.size, 1, none⟩ = some (.int .i64 0) := by go_cell
      have fyr1 : ((((w21.setCell ⟨w13.heap.size, 0, none⟩ (.int .i64 v1)).setCell ⟨w13.heap.size, 1, none⟩ (.int .i64 v2)).setCell ⟨w13.heap.size, 2, none⟩ (.int .i64 v3)).setCell ⟨w13.heap.size, 3, none⟩ (.int .i64 v4)).frozen? ⟨w.heap.size, 1, none⟩ = false := by go_cell
      have yr2 : ((((w21.setCell ⟨w13.heap.size, 0, none⟩ (.int .i64 v1)).setCell ⟨w13.heap.size, 1, none⟩ (.int .i64 v2)).setCell ⟨w13.heap.size, 2, none⟩ (.int .i64 v3)).setCell ⟨w13.heap.size, 3, none⟩ (.int .i64 v4)).cell? ⟨w.heap.size, 2, none⟩ = some (.int .i64 0) := by go_cell
      have fyr2 : ((((w21.setCell ⟨w13.heap.size, 0, none⟩ (.int .i64 v1)).setCell ⟨w13.heap.size, 1, none⟩ (.int .i64 v2)).setCell ⟨w13.heap.size, 2, none⟩ (.int .i64 v3)).setCell ⟨w13.heap.size, 3, none⟩ (.int .i64 v4)).frozen? ⟨w.heap.size, 2, none⟩ = false := by go_cell
      have yr3 : ((((w21.setCell ⟨w13.heap.size, 0, none⟩ (.int .i64 v1)).setCell ⟨w13.heap.size, 1, none⟩ (.int .i64 v2)).setCell ⟨w13.heap.size, 2, none⟩ (.int .i64 v3)).setCell ⟨w13.heap.size, 3, none⟩ (.int .i64 v4)).cell? ⟨w.heap.size, 3, none⟩ = some (.int .i64 0) := by go_cell
      have fyr3 : ((((w21.setCell ⟨w13.heap.size, 0, none⟩ (.int .i64 v1)).setCell ⟨w13.heap.size, 1, none⟩ (.int .i64 v2)).setCell ⟨w13.heap.size, 2, none⟩ (.int .i64 v3)).setCell ⟨w13.heap.size, 3, none⟩ (.int .i64 v4)).frozen? ⟨w.heap.size, 3, none⟩ = false := by go_cell
      have yc0 : ((((w21.setCell ⟨w13.heap.size, 0, none⟩ (.int .i64 v1)).setCell ⟨w13.heap.size, 1, none⟩ (.int .i64 v2)).setCell ⟨w13.heap.size, 2, none⟩ (.int .i64 v3)).setCell ⟨w13.heap.size, 3, none⟩ (.int .i64 v4)).cell? ⟨CB, 0, none⟩ = some (.int .i64 T1) := by go_cell
      have yc1 : ((((w21.setCell ⟨w13.heap.size, 0, none⟩ (.int .i64 v1)).setCell ⟨w13.heap.size, 1, none⟩ (.int .i64 v2)).setCell ⟨w13.heap.size, 2, none⟩ (.int .i64 v3)).setCell ⟨w13.heap.size, 3, none⟩ (.int .i64 v4)).cell? ⟨CB, 1, none⟩ = some (.int .i64 T2) := by go_cell
      have yc2 : ((((w21.setCell ⟨w13.heap.size, 0, none⟩ (.int .i64 v1)).setCell ⟨w13.heap.size, 1, none⟩ (.int .i64 v2)).setCell ⟨w13.heap.size, 2, none⟩ (.int .i64 v3)).setCell ⟨w13.heap.size, 3, none⟩ (.int .i64 v4)).cell? ⟨CB, 2, none⟩ = some (.int .i64 0) := by go_cell
      have yc3 : ((((w21.setCell ⟨w13.heap.size, 0, none⟩ (.int .i64 v1)).setCell ⟨w13.heap.size, 1, none⟩ (.int .i64 v2)).setCell ⟨w13.heap.size, 2, none⟩ (.int .i64 v3)).setCell ⟨w13.heap.size, 3, none⟩ (.int .i64 v4)).cell? ⟨CB, 3, none⟩ = some (.int .i64 0) := by go_cell
      have yv0 : ((((w21.setCell ⟨w13.heap.size, 0, none⟩ (.int .i64 v1)).setCell ⟨w13.heap.size, 1, none⟩ (.int .i64 v2)).setCell ⟨w13.heap.size, 2, none⟩ (.int .i64 v3)).setCell ⟨w13.heap.size, 3, none⟩ (.int .i64 v4)).cell? ⟨w13.heap.size, 0, none⟩ = some (.int .i64 v1) := by go_cell
      have yv1 : ((((w21.setCell ⟨w13.heap.size, 0, none⟩ (.int .i64 v1)).setCell ⟨w13.heap.size, 1, none⟩ (.int .i64 v2)).setCell ⟨w13.heap.size, 2, none⟩ (.int .i64 v3)).setCell ⟨w13.heap.size, 3, none⟩ (.int .i64 v4)).cell? ⟨w13.heap.size, 1, none⟩ = some (.int .i64 v2) := by go_cell
      have yv2 : ((((w21.setCell ⟨w13.heap.size, 0, none⟩ (.int .i64 v1)).setCell ⟨w13.heap.size, 1, none⟩ (.int .i64 v2)).setCell ⟨w13.heap.size, 2, none⟩ (.int .i64 v3)).setCell ⟨w13.heap.size, 3, none⟩ (.int .i64 v4)).cell? ⟨w13.heap.size, 2, none⟩ = some (.int .i64 v3) := by go_cell
      have yv3 : ((((w21.setCell ⟨w13.heap.size, 0, none⟩ (.int .i64 v1)).setCell ⟨w13.heap.size, 1, none⟩ (.int .i64 v2)).setCell ⟨w13.heap.size, 2, none⟩ (.int .i64 v3)).setCell ⟨w13.heap.size, 3, none⟩ (.int .i64 v4)).cell? ⟨w13.heap.size, 3, none⟩ = some (.int .i64 v4) := by go_cell
      have sE1 : w13.heap.size < ((((w21.setCell ⟨w13.heap.size, 0, none⟩ (.int .i64 v1)).setCell ⟨w13.heap.size, 1, none⟩ (.int .i64 v2)).setCell ⟨w13.heap.size, 2, none⟩ (.int .i64 v3)).setCell ⟨w13.heap.size, 3, none⟩ (.int .i64 v4)).heap.size := by first | (simp; done) | (simp; omega)
      have sE2 : CB < ((((w21.setCell ⟨w13.heap.size, 0, none⟩ (.int .i64 v1)).setCell ⟨w13.heap.size, 1, none⟩ (.int .i64 v2)).setCell ⟨w13.heap.size, 2, none⟩ (.int .i64 v3)).setCell ⟨w13.heap.size, 3, none⟩ (.int .i64 v4)).heap.size := by first | (simp; done) | (simp; omega)
      have sE3 : w.heap.size < ((((w21.setCell ⟨w13.heap.size, 0, none⟩ (.int .i64 v1)).setCell ⟨w13.heap.size, 1, none⟩ (.int .i64 v2)).setCell ⟨w13.heap.size, 2, none⟩ (.int .i64 v3)).setCell ⟨w13.heap.size, 3, none⟩ (.int .i64 v4)).heap.size := by first | (simp; done) | (simp; omega)
      clear hHeld
      generalize ((((w21.setCell ⟨w13.heap.size, 0, none⟩ (.int .i64 v1)).setCell ⟨w13.heap.size, 1, none⟩ (.int .i64 v2)).setCell ⟨w13.heap.size, 2, none⟩ (.int .i64 v3)).setCell ⟨w13.heap.size, 3, none⟩ (.int .i64 v4)) = V at *
      generalize w13.heap.size = XB at *
      go_wp2_with fail
      refine (subRect_any T1 T2 0 0 v1 v2 v3 v4 _ HO0.out h0k.out HO4.out.1 HO4.out.2).mono ?_
      rintro e w5 ⟨he, hb⟩
      have D5 : Below w.heap.size w w5 := DE.trans (hb.mono (by omega))
      have hs5 := hb.size
      obtain ⟨k1, k2⟩ := bcl hb
      have qr0 := (k1 (w.heap.size) 0 (by first | omega | (simp; done) | (simp; omega))).trans yr0
      have fqr0 := (k2 (w.heap.size) 0 (by first | omega | (simp; done) | (simp; omega))).trans fyr0
      have qr1 := (k1 (w.heap.size) 1 (by first | omega | (simp; done) | (simp; omega))).trans yr1
      have fqr1 := (k2 (w.heap.size) 1 (by first | omega | (simp; done) | (simp; omega))).trans fyr1
      have qr2 := (k1 (w.heap.size) 2 (by first | omega | (simp; done) | (simp; omega))).trans yr2
      have fqr2 := (k2 (w.heap.size) 2 (by first | omega | (simp; done) | (simp; omega))).trans fyr2
      have qr3 := (k1 (w.heap.size) 3 (by first | omega | (simp; done) | (simp; omega))).trans yr3
      have fqr3 := (k2 (w.heap.size) 3 (by first | omega | (simp; done) | (simp; omega))).trans fyr3
      have qc0 := (k1 (CB) 0 (by first | omega | (simp; done) | (simp; omega))).trans yc0
      have qc1 := (k1 (CB) 1 (by first | omega | (simp; done) | (simp; omega))).trans yc1
      have qc2 := (k1 (CB) 2 (by first | omega | (simp; done) | (simp; omega))).trans yc2
      have qc3 := (k1 (CB) 3 (by first | omega | (simp; done) | (simp; omega))).trans yc3
      have qv0 := (k1 (XB) 0 (by first | omega | (simp; done) | (simp; omega))).trans yv0
      have qv1 := (k1 (XB) 1 (by first | omega | (simp; done) | (simp; omega))).trans yv1
      have qv2 := (k1 (XB) 2 (by first | omega | (simp; done) | (simp; omega))).trans yv2
      have qv3 := (k1 (XB) 3 (by first | omega | (simp; done) | (simp; omega))).trans yv3
      clear k1 k2
      clear hb DE yr0 fyr0 yr1 fyr1 yr2 fyr2 yr3 fyr3 yc0 yc1 yc2 yc3 yv0 yv1 yv2 yv3
      obtain ⟨r, hr⟩ : ∃ r, (subR ⟨⟨T1, T2⟩, ⟨0, 0⟩⟩ ⟨⟨v1, v2⟩, ⟨v3, v4⟩⟩) = r := ⟨_, rfl⟩
      rw [hr] at he
      have HR5 := Lib.hid hr
      clear hr
      rcases r with ⟨⟨z1, z2⟩, ⟨z3, z4⟩⟩ | k
      case' bad =>
        obtain rfl : e = .panicked [{ v := .iface 26 (.int .i64 k), recovered := false }] := he
        go_wp2_with fail
        refine ⟨rfl, ?_, by go_grown⟩
        rw [← HSP.out]; simp only [ringS, HR0.out, HR1.out, HR3.out, HR4.out, HR5.out, Out.binds, IsR]; (try rfl)
      obtain rfl : e = .returned (.agg #[.int .i64 z1, .int .i64 z2, .int .i64 z3, .int .i64 z4]) := he
      have HO5 := Lib.hid ((okR_iff _).1 (subR_ok HR5.out))
      go_upto_region 4 with fail
      have nr1 : CB < w5.heap.size := by omega
      have nr2 : XB < w5.heap.size := by omega
      have nr3 : w.heap.size < w5.heap.size := by omega
      have xr0 : (w5.alloc (Obj.cells #[.int .i64 z1, .int .i64 z2, .int .i64 z3, .int .i64 z4] 25)).cell? ⟨w.heap.size, 0, none⟩ = some (.int .i64 0) := by go_cell
      have fxr0 : (w5.alloc (Obj.cells #[.int .i64 z1, .int .i64 z2, .int .i64 z3, .int .i64 z4] 25)).frozen? ⟨w.heap.size, 0, none⟩ = false := by go_cell
      have xr1 : (w5.alloc (Obj.cells #[.int .i64 z1, .int .i64 z2, .int .i64 z3, .int .i64 z4] 25)).cell? ⟨w.heap.size, 1, none⟩ = some (.int .i64 0) := by go_cell
      have fxr1 : (w5.alloc (Obj.cells #[.int .i64 z1, .int .i64 z2, .int .i64 z3, .int .i64 z4] 25)).frozen? ⟨w.heap.size, 1, none⟩ = false := by go_cell
      have xr2 : (w5.alloc (Obj.cells #[.int .i64 z1, .int .i64 z2, .int .i64 z3, .int .i64 z4] 25)).cell? ⟨w.heap.size, 2, none⟩ = some (.int .i64 0) := by go_cell
      have fxr2 : (w5.alloc (Obj.cells #[.int .i64 z1, .int .i64 z2, .int .i64 z3, .int .i64 z4] 25)).frozen? ⟨w.heap.size, 2, none⟩ = false := by go_cell
      have xr3 : (w5.alloc (Obj.cells #[.int .i64 z1, .int .i64 z2, .int .i64 z3, .int .i64 z4] 25)).cell? ⟨w.heap.size, 3, none⟩ = some (.int .i64 0) := by go_cell
      have fxr3 : (w5.alloc (Obj.cells #[.int .i64 z1, .int .i64 z2, .int .i64 z3, .int .i64 z4] 25)).frozen? ⟨w.heap.size, 3, none⟩ = false := by go_cell
      have xc0 : (w5.alloc (Obj.cells #[.int .i64 z1, .int .i64 z2, .int .i64 z3, .int .i64 z4] 25)).cell? ⟨CB, 0, none⟩ = some (.int .i64 T1) := by go_cell
      have xc1 : (w5.alloc (Obj.cells #[.int .i64 z1, .int .i64 z2, .int .i64 z3, .int .i64 z4] 25)).cell? ⟨CB, 1, none⟩ = some (.int .i64 T2) := by go_cell
      have xc2 : (w5.alloc (Obj.cells #[.int .i64 z1, .int .i64 z2, .int .i64 z3, .int .i64 z4] 25)).cell? ⟨CB, 2, none⟩ = some (.int .i64 0) := by go_cell
      have xc3 : (w5.alloc (Obj.cells #[.int .i64 z1, .int .i64 z2, .int .i64 z3, .int .i64 z4] 25)).cell? ⟨CB, 3, none⟩ = some (.int .i64 0) := by go_cell
      have xv0 : (w5.alloc (Obj.cells #[.int .i64 z1, .int .i64 z2, .int .i64 z3, .int .i64 z4] 25)).cell? ⟨XB, 0, none⟩ = some (.int .i64 v1) := by go_cell
      have xv1 : (w5.alloc (Obj.cells #[.int .i64 z1, .int .i64 z2, .int .i64 z3, .int .i64 z4] 25)).cell? ⟨XB, 1, none⟩ = some (.int .i64 v2) := by go_cell
      have xv2 : (w5.alloc (Obj.cells #[.int .i64 z1, .int .i64 z2, .int .i64 z3, .int .i64 z4] 25)).cell? ⟨XB, 2, none⟩ = some (.int .i64 v3) := by go_cell
      have xv3 : (w5.alloc (Obj.cells #[.int .i64 z1, .int .i64 z2, .int .i64 z3, .int .i64 z4] 25)).cell? ⟨XB, 3, none⟩ = some (.int .i64 v4) := by go_cell
      have xz0 : (w5.alloc (Obj.cells #[.int .i64 z1, .int .i64 z2, .int .i64 z3, .int .i64 z4] 25)).cell? ⟨w5.heap.size, 0, none⟩ = some (.int .i64 z1) := by go_cell
      have xz1 : (w5.alloc (Obj.cells #[.int .i64 z1, .int .i64 z2, .int .i64 z3, .int .i64 z4] 25)).cell? ⟨w5.heap.size, 1, none⟩ = some (.int .i64 z2) := by go_cell
      have xz2 : (w5.alloc (Obj.cells #[.int .i64 z1, .int .i64 z2, .int .i64 z3, .int .i64 z4] 25)).cell? ⟨w5.heap.size, 2, none⟩ = some (.int .i64 z3) := by go_cell
      have xz3 : (w5.alloc (Obj.cells #[.int .i64 z1, .int .i64 z2, .int .i64 z3, .int .i64 z4] 25)).cell? ⟨w5.heap.size, 3, none⟩ = some (.int .i64 z4) := by go_cell
      have DE : Below w.heap.size w (w5.alloc (Obj.cells #[.int .i64 z1, .int .i64 z2, .int .i64 z3, .int .i64 z4] 25)) := D5.alloc (by omega) _
      have sF : w5.heap.size < (w5.alloc (Obj.cells #[.int .i64 z1, .int .i64 z2, .int .i64 z3, .int .i64 z4] 25)).heap.size := by simp
      clear qr0 fqr0 qr1 fqr1 qr2 fqr2 qr3 fqr3 qc0 qc1 qc2 qc3 qv0 qv1 qv2 qv3
      generalize (w5.alloc (Obj.cells #[.int .i64 z1, .int .i64 z2, .int .i64 z3, .int .i64 z4] 25)) = V' at *
      generalize w5.heap.size = ZB at *
      have J0 : Hid (∀ w', Below V'.heap.size V' w' → w'.cell? ⟨ZB, 0, none⟩ = some (.int .i64 z1) ∧ w'.cell? ⟨ZB, 1, none⟩ = some (.int .i64 z2) ∧ w'.cell? ⟨ZB, 2, none⟩ = some (.int .i64 z3) ∧ w'.cell? ⟨ZB, 3, none⟩ = some (.int .i64 z4) ∧ w'.cell? ⟨CB, 0, none⟩ = some (.int .i64 T1) ∧ w'.cell? ⟨CB, 1, none⟩ = some (.int .i64 T2) ∧ w'.cell? ⟨CB, 2, none⟩ = some (.int .i64 0) ∧ w'.cell? ⟨CB, 3, none⟩ = some (.int .i64 0) ∧ w'.cell? ⟨XB, 0, none⟩ = some (.int .i64 v1) ∧ w'.cell? ⟨XB, 1, none⟩ = some (.int .i64 v2) ∧ w'.cell? ⟨XB, 2, none⟩ = some (.int .i64 v3) ∧ w'.cell? ⟨XB, 3, none⟩ = some (.int .i64 v4)) := Lib.hid (fun w' hb => by
        have ez := fun o' => hb.cell (p := ⟨ZB, o', none⟩) (by simp only; omega)
        have ec := fun o' => hb.cell (p := ⟨CB, o', none⟩) (by simp only; omega)
        have ev := fun o' => hb.cell (p := ⟨XB, o', none⟩) (by simp only; omega)
        exact ⟨(ez _).trans xz0, (ez _).trans xz1, (ez _).trans xz2, (ez _).trans xz3, (ec _).trans xc0, (ec _).trans xc1, (ec _).trans xc2, (ec _).trans xc3, (ev _).trans xv0, (ev _).trans xv1, (ev _).trans xv2, (ev _).trans xv3⟩)
      have J1 : Hid (∀ w', Below V'.heap.size V' w' → w'.cell? ⟨w.heap.size, 0, none⟩ = some (.int .i64 0) ∧ w'.cell? ⟨w.heap.size, 1, none⟩ = some (.int .i64 0) ∧ w'.cell? ⟨w.heap.size, 2, none⟩ = some (.int .i64 0) ∧ w'.cell? ⟨w.heap.size, 3, none⟩ = some (.int .i64 0) ∧ w'.frozen? ⟨w.heap.size, 0, none⟩ = false ∧ w'.frozen? ⟨w.heap.size, 1, none⟩ = false ∧ w'.frozen? ⟨w.heap.size, 2, none⟩ = false ∧ w'.frozen? ⟨w.heap.size, 3, none⟩ = false) := Lib.hid (fun w' hb => by
        have er := fun o' => hb.cell (p := ⟨w.heap.size, o', none⟩) (by simp only; omega)
        have efr := fun o' => hb.frozen (p := ⟨w.heap.size, o', none⟩) (by simp only; omega)
        exact ⟨(er _).trans xr0, (er _).trans xr1, (er _).trans xr2, (er _).trans xr3, (efr _).trans fxr0, (efr _).trans fxr1, (efr _).trans fxr2, (efr _).trans fxr3⟩)
      have HD : Below V'.heap.size V' V' := Below.refl _ _
      have K0 := Lib.hid DE
      clear DE xz0 xz1 xz2 xz3 xc0 xc1 xc2 xc3 xv0 xv1 xv2 xv3 xr0 fxr0 xr1 fxr1 xr2 fxr2 xr3 fxr3
      have HD31 : Below V'.heap.size V' V'.drew := HD.drew
      refine wp_region_held_drew (S := fun w' => w'.cell? ⟨ZB, 0, none⟩ = some (.int .i64 z1) ∧ w'.cell? ⟨ZB, 1, none⟩ = some (.int .i64 z2) ∧ w'.cell? ⟨ZB, 2, none⟩ = some (.int .i64 z3) ∧ w'.cell? ⟨ZB, 3, none⟩ = some (.int .i64 z4) ∧ w'.cell? ⟨CB, 0, none⟩ = some (.int .i64 T1) ∧ w'.cell? ⟨CB, 1, none⟩ = some (.int .i64 T2) ∧ w'.cell? ⟨CB, 2, none⟩ = some (.int .i64 0) ∧ w'.cell? ⟨CB, 3, none⟩ = some (.int .i64 0) ∧ w'.cell? ⟨XB, 0, none⟩ = some (.int .i64 v1) ∧ w'.cell? ⟨XB, 1, none⟩ = some (.int .i64 v2) ∧ w'.cell? ⟨XB, 2, none⟩ = some (.int .i64 v3) ∧ w'.cell? ⟨XB, 3, none⟩ = some (.int .i64 v4)) (by kernel_rfl) (J0.out _ HD31) (fun hHeld => ?_)
      refine wpAnyH_take (i := 0) (oi := _) (v := ?_) rfl (by kernel_rfl) (by kernel_rfl) (by kernel_rfl) (fun _ _ _ h => h) (Or.inl ⟨by rfl, ?_⟩) (by assumption) ?_
      rotate_left
      · intro w hSw; obtain ⟨_, _, _, _, _, _, _, _, _, _, _, _⟩ := hSw; go_simp; (try with_reducible rfl)
      try change wpAnyH _ _ _ _ _ _ _ (Act.put _ (some 19) _) _
      try simp only [act_all]
      refine wpAnyH_take (i := 3) (oi := _) (v := ?_) rfl (by kernel_rfl) (by kernel_rfl) (by kernel_rfl) (fun _ _ _ h => h) (Or.inl ⟨by rfl, ?_⟩) (by assumption) ?_
      rotate_left
      · intro w hSw; obtain ⟨_, _, _, _, _, _, _, _, _, _, _, _⟩ := hSw; go_simp; (try with_reducible rfl)
      try change wpAnyH _ _ _ _ _ _ _ (Act.put _ (some 22) _) _
      try simp only [act_all]
      refine wpAnyH_take (i := 4) (oi := _) (v := ?_) rfl (by kernel_rfl) (by kernel_rfl) (by kernel_rfl) (fun _ _ _ h => h) (Or.inl ⟨by rfl, ?_⟩) (by assumption) ?_
      rotate_left
      · intro w hSw; obtain ⟨_, _, _, _, _, _, _, _, _, _, _, _⟩ := hSw; go_simp; (try with_reducible rfl)
      try change wpAnyH _ _ _ _ _ _ _ (Act.put _ (some 23) _) _
      try simp only [act_all]
      refine wpAnyH_ready (rs := [1]) (by kernel_rfl) (by simp) ?_
      refine AllReadyH.cons (o := _) rfl (fun K hK => ?_) AllReadyH.nil
      go_simp
      refine ((whole_any 1 _ (by omega) (by omega)).mono (fun e w' h => (by rw [show (1 : Int) * 1073741824 = 1073741824 from rfl] at h; exact h : e = retS ⟨1073741824, 1073741824⟩ ∧ Below _ _ w'))).mono ?_
      rintro e w32 ⟨he, hb⟩
      have HD32 : Below V'.heap.size V' w32 := Below.trans HD31 (hb.mono HD31.size)
      have hz32 := HD32.size
      have DA32 := K0.out.trans (HD32.mono (show w.heap.size ≤ V'.heap.size by omega))
      clear hb hHeld
      obtain rfl : e = .returned (.agg #[.int .i64 1073741824, .int .i64 1073741824]) := he
      refine hK.out _ _ (J0.out _ HD32) (fun hHeld => ?_)
      clear hK K
      try simp only [act_all]
      refine wpAnyH_ready (rs := [2]) (by kernel_rfl) (by simp) ?_
      refine AllReadyH.cons (o := _) rfl (fun K hK => ?_) AllReadyH.nil
      go_simp
      refine (onAxis_any 1073741824 1073741824 _).mono ?_
      rintro e w33 ⟨he, hb⟩
      have HD33 : Below V'.heap.size V' w33 := Below.trans HD32 (hb.mono HD32.size)
      have hz33 := HD33.size
      have DA33 := K0.out.trans (HD33.mono (show w.heap.size ≤ V'.heap.size by omega))
      clear hb hHeld
      obtain rfl : e = .returned (.agg #[.int .i64 1073741824, .int .i64 1073741824, .int .i64 0, .int .i64 0]) := he
      refine hK.out _ _ (J0.out _ HD33) (fun hHeld => ?_)
      clear hK K
      try simp only [act_all]
      refine wpAnyH_ready (rs := [5]) (by kernel_rfl) (by simp) ?_
      refine AllReadyH.cons (o := _) rfl (fun K hK => ?_) AllReadyH.nil
      go_simp
      refine (mulRect_any T1 T2 0 0 v1 v2 v3 v4 _ HO0.out h0k.out HO4.out.1 HO4.out.2).mono ?_
      rintro e w34 ⟨he, hb⟩
      have HD34 : Below V'.heap.size V' w34 := Below.trans HD33 (hb.mono HD33.size)
      have hz34 := HD34.size
      have DA34 := K0.out.trans (HD34.mono (show w.heap.size ≤ V'.heap.size by omega))
      clear hb hHeld
      obtain ⟨r, hr⟩ : ∃ r, (mulR ⟨⟨T1, T2⟩, ⟨0, 0⟩⟩ ⟨⟨v1, v2⟩, ⟨v3, v4⟩⟩) = r := ⟨_, rfl⟩
      rw [hr] at he
      have HR10 := Lib.hid hr
      clear hr
      rcases r with ⟨⟨x1, x2⟩, ⟨x3, x4⟩⟩ | k
      case' bad =>
        obtain rfl : e = .panicked [{ v := .iface 26 (.int .i64 k), recovered := false }] := he
        refine ⟨rfl, ?_, by go_grown⟩
        rw [← HSP.out]; simp only [ringS, HR0.out, HR1.out, HR3.out, HR4.out, HR5.out, HR10.out, Out.binds, IsR]; (try rfl)
      obtain rfl : e = .returned (.agg #[.int .i64 x1, .int .i64 x2, .int .i64 x3, .int .i64 x4]) := he
      have HO10 := Lib.hid ((okR_iff _).1 (mulR_ok HR10.out))
      refine hK.out _ _ (J0.out _ HD34) (fun hHeld => ?_)
      clear hK K
      try simp only [act_all]
      refine wpAnyH_ready (rs := [6]) (by kernel_rfl) (by simp) ?_
      refine AllReadyH.cons (o := _) rfl (fun K hK => ?_) AllReadyH.nil
      go_simp
      refine (subRect_any 1073741824 1073741824 0 0 x1 x2 x3 x4 _ h1k.out h0k.out HO10.out.1 HO10.out.2).mono ?_
      rintro e w35 ⟨he, hb⟩
      have HD35 : Below V'.heap.size V' w35 := Below.trans HD34 (hb.mono HD34.size)
      have hz35 := HD35.size
      have DA35 := K0.out.trans (HD35.mono (show w.heap.size ≤ V'.heap.size by omega))
      clear hb hHeld
      obtain ⟨r, hr⟩ : ∃ r, (subR ⟨⟨1073741824, 1073741824⟩, ⟨0, 0⟩⟩ ⟨⟨x1, x2⟩, ⟨x3, x4⟩⟩) = r := ⟨_, rfl⟩
      rw [hr] at he
      have HR11 := Lib.hid hr
      clear hr
      rcases r with ⟨⟨d1, d2⟩, ⟨d3, d4⟩⟩ | k
      case' bad =>
        obtain rfl : e = .panicked [{ v := .iface 26 (.int .i64 k), recovered := false }] := he
        refine ⟨rfl, ?_, by go_grown⟩
        rw [← HSP.out]; simp only [ringS, HR0.out, HR1.out, HR3.out, HR4.out, HR5.out, HR10.out, HR11.out, Out.binds, IsR]; (try rfl)
      obtain rfl : e = .returned (.agg #[.int .i64 d1, .int .i64 d2, .int .i64 d3, .int .i64 d4]) := he
      have HO11 := Lib.hid ((okR_iff _).1 (subR_ok HR11.out))
      refine hK.out _ _ (J0.out _ HD35) (fun hHeld => ?_)
      clear hK K
      try simp only [act_all]
      refine wpAnyH_ready (rs := [7]) (by kernel_rfl) (by simp) ?_
      refine AllReadyH.cons (o := _) rfl (fun K hK => ?_) AllReadyH.nil
      go_simp
      refine (divRect_any z1 z2 z3 z4 d1 d2 d3 d4 _ HO5.out.1 HO5.out.2 HO11.out.1 HO11.out.2).mono ?_
      rintro e w36 ⟨he, hb⟩
      have HD36 : Below V'.heap.size V' w36 := Below.trans HD35 (hb.mono HD35.size)
      have hz36 := HD36.size
      have DA36 := K0.out.trans (HD36.mono (show w.heap.size ≤ V'.heap.size by omega))
      clear hb hHeld
      obtain ⟨r, hr⟩ : ∃ r, (divR ⟨⟨z1, z2⟩, ⟨z3, z4⟩⟩ ⟨⟨d1, d2⟩, ⟨d3, d4⟩⟩) = r := ⟨_, rfl⟩
      rw [hr] at he
      have HR12 := Lib.hid hr
      clear hr
      rcases r with ⟨⟨p1, q1⟩, ⟨p2, q2⟩⟩ | k
      case' bad =>
        obtain rfl : e = .panicked [{ v := .iface 26 (.int .i64 k), recovered := false }] := he
        refine ⟨rfl, ?_, by go_grown⟩
        rw [← HSP.out]; simp only [ringS, HR0.out, HR1.out, HR3.out, HR4.out, HR5.out, HR10.out, HR11.out, HR12.out, Out.binds, IsR]; (try rfl)
      obtain rfl : e = .returned (.agg #[.int .i64 p1, .int .i64 q1, .int .i64 p2, .int .i64 q2]) := he
      refine hK.out _ _ (J0.out _ HD36) (fun hHeld => ?_)
      clear hK K
      try simp only [act_all]
      refine wpAnyH_ready (rs := [8]) (by kernel_rfl) (by simp) ?_
      refine AllReadyH.cons (o := _) rfl (fun K hK => ?_) AllReadyH.nil
      obtain ⟨_, _, _, _, _, _, _, _, _, _, _, _⟩ := J0.out _ HD36
      obtain ⟨_, _, _, _, _, _, _, _⟩ := J1.out _ HD36
      go_simp
      refine hK.out _ _ (by refine ⟨?_, ?_, ?_, ?_, ?_, ?_, ?_, ?_, ?_, ?_, ?_, ?_⟩ <;> go_cell) (fun hHeld => ?_)
      clear hK K
      try simp only [act_all]
      refine wpAnyH_done (by kernel_rfl) ?_ _
      go_wp2_with fail
      refine bodyPost_ret (v := .agg #[.int .i64 p1, .int .i64 q1, .int .i64 p2, .int .i64 q2]) (by simp [results, Try.results78, go_sem, *]) rfl ⟨?_, by go_grown⟩
      rw [← HSP.out]; simp only [ringS, HR0.out, HR1.out, HR3.out, HR4.out, HR5.out, HR10.out, HR11.out, HR12.out, Out.binds, IsR]; (try rfl)
    refine AllReadyH.cons (o := _) rfl (fun K hK => ?_) AllReadyH.nil
    have HD22 : Below W.heap.size W (w12.alloc (Obj.cells #[.int .i64 0, .int .i64 0, .int .i64 0, .int .i64 0] 25)) := bal HD12 _
    go_simp
    refine hK.out _ _ (G0.out _ HD22) (fun hHeld => ?_)
    clear hK K
    try simp only [act_all]
    refine wpAnyH_ready (rs := [2]) (by kernel_rfl) (by simp) ?_
    refine AllReadyH.cons (o := _) rfl (fun K hK => ?_) AllReadyH.nil
    go_simp
    refine (onAxis_any A1 A2 _).mono ?_
    rintro e w23 ⟨he, hb⟩
    have HD23 : Below W.heap.size W w23 := Below.trans HD22 (hb.mono HD22.size)
    have hz23 := HD23.size
    have DA23 := HB0.out.trans (HD23.mono (show w.heap.size ≤ W.heap.size by omega))
    have t23_0_0 := (hb.cell (p := ⟨w12.heap.size, 0, none⟩) (by first | omega | (simp; done) | (simp; omega))).trans (by go_cell : _ = some (.int .i64 0))
    have z23_0_0 := (hb.frozen (p := ⟨w12.heap.size, 0, none⟩) (by first | omega | (simp; done) | (simp; omega))).trans (by go_cell : _ = false)
    have t23_0_1 := (hb.cell (p := ⟨w12.heap.size, 1, none⟩) (by first | omega | (simp; done) | (simp; omega))).trans (by go_cell : _ = some (.int .i64 0))
    have z23_0_1 := (hb.frozen (p := ⟨w12.heap.size, 1, none⟩) (by first | omega | (simp; done) | (simp; omega))).trans (by go_cell : _ = false)
    have t23_0_2 := (hb.cell (p := ⟨w12.heap.size, 2, none⟩) (by first | omega | (simp; done) | (simp; omega))).trans (by go_cell : _ = some (.int .i64 0))
    have z23_0_2 := (hb.frozen (p := ⟨w12.heap.size, 2, none⟩) (by first | omega | (simp; done) | (simp; omega))).trans (by go_cell : _ = false)
    have t23_0_3 := (hb.cell (p := ⟨w12.heap.size, 3, none⟩) (by first | omega | (simp; done) | (simp; omega))).trans (by go_cell : _ = some (.int .i64 0))
    have z23_0_3 := (hb.frozen (p := ⟨w12.heap.size, 3, none⟩) (by first | omega | (simp; done) | (simp; omega))).trans (by go_cell : _ = false)
    have l23_0 : w12.heap.size < w23.heap.size := by have hs := hb.size; (try simp at hs); omega
    clear hb hHeld
    obtain rfl : e = .returned (.agg #[.int .i64 A1, .int .i64 A2, .int .i64 0, .int .i64 0]) := he
    refine hK.out _ _ (G0.out _ HD23) (fun hHeld => ?_)
    clear hK K
    try simp only [act_all]
    refine wpAnyH_ready (rs := [4]) (by kernel_rfl) (by simp) ?_
    refine AllReadyH.cons (o := _) rfl (fun K hK => ?_) AllReadyH.nil
    go_simp
    refine (unit_any n _).mono ?_
    rintro e w24 ⟨he, hb⟩
    have HD24 : Below W.heap.size W w24 := Below.trans HD23 (hb.mono HD23.size)
    have hz24 := HD24.size
    have DA24 := HB0.out.trans (HD24.mono (show w.heap.size ≤ W.heap.size by omega))
    have t24_0_0 := (hb.cell (p := ⟨w12.heap.size, 0, none⟩) (by first | omega | (simp; done) | (simp; omega))).trans (by go_cell : _ = some (.int .i64 0))
    have z24_0_0 := (hb.frozen (p := ⟨w12.heap.size, 0, none⟩) (by first | omega | (simp; done) | (simp; omega))).trans (by go_cell : _ = false)
    have t24_0_1 := (hb.cell (p := ⟨w12.heap.size, 1, none⟩) (by first | omega | (simp; done) | (simp; omega))).trans (by go_cell : _ = some (.int .i64 0))
    have z24_0_1 := (hb.frozen (p := ⟨w12.heap.size, 1, none⟩) (by first | omega | (simp; done) | (simp; omega))).trans (by go_cell : _ = false)
    have t24_0_2 := (hb.cell (p := ⟨w12.heap.size, 2, none⟩) (by first | omega | (simp; done) | (simp; omega))).trans (by go_cell : _ = some (.int .i64 0))
    have z24_0_2 := (hb.frozen (p := ⟨w12.heap.size, 2, none⟩) (by first | omega | (simp; done) | (simp; omega))).trans (by go_cell : _ = false)
    have t24_0_3 := (hb.cell (p := ⟨w12.heap.size, 3, none⟩) (by first | omega | (simp; done) | (simp; omega))).trans (by go_cell : _ = some (.int .i64 0))
    have z24_0_3 := (hb.frozen (p := ⟨w12.heap.size, 3, none⟩) (by first | omega | (simp; done) | (simp; omega))).trans (by go_cell : _ = false)
    have l24_0 : w12.heap.size < w24.heap.size := by have hs := hb.size; (try simp at hs); omega
    clear hb hHeld
    obtain ⟨r, hr⟩ : ∃ r, (unitS n) = r := ⟨_, rfl⟩
    rw [hr] at he
    have HR3 := Lib.hid hr
    clear hr
    rcases r with ⟨⟨u1, u2⟩, ⟨u3, u4⟩⟩ | k
    case' bad =>
      obtain rfl : e = .panicked [{ v := .iface 26 (.int .i64 k), recovered := false }] := he
      refine ⟨rfl, ?_, by go_grown⟩
      rw [← HSP.out]; simp only [ringS, HR0.out, HR1.out, HR3.out, Out.binds, IsR]; (try rfl)
    obtain rfl : e = .returned (.agg #[.int .i64 u1, .int .i64 u2, .int .i64 u3, .int .i64 u4]) := he
    have HO3 := Lib.hid ((okR_iff _).1 (unitS_ok HR3.out))
    refine hK.out _ _ (G0.out _ HD24) (fun hHeld => ?_)
    clear hK K
    try simp only [act_all]
    refine wpAnyH_ready (rs := [5]) (by kernel_rfl) (by simp) ?_
    refine AllReadyH.cons (o := _) rfl (fun K hK => ?_) AllReadyH.nil
    go_simp
    refine (mulRect_any A1 A2 0 0 u1 u2 u3 u4 _ HO1.out h0k.out HO3.out.1 HO3.out.2).mono ?_
    rintro e w25 ⟨he, hb⟩
    have HD25 : Below W.heap.size W w25 := Below.trans HD24 (hb.mono HD24.size)
    have hz25 := HD25.size
    have DA25 := HB0.out.trans (HD25.mono (show w.heap.size ≤ W.heap.size by omega))
    have t25_0_0 := (hb.cell (p := ⟨w12.heap.size, 0, none⟩) (by first | omega | (simp; done) | (simp; omega))).trans (by go_cell : _ = some (.int .i64 0))
    have z25_0_0 := (hb.frozen (p := ⟨w12.heap.size, 0, none⟩) (by first | omega | (simp; done) | (simp; omega))).trans (by go_cell : _ = false)
    have t25_0_1 := (hb.cell (p := ⟨w12.heap.size, 1, none⟩) (by first | omega | (simp; done) | (simp; omega))).trans (by go_cell : _ = some (.int .i64 0))
    have z25_0_1 := (hb.frozen (p := ⟨w12.heap.size, 1, none⟩) (by first | omega | (simp; done) | (simp; omega))).trans (by go_cell : _ = false)
    have t25_0_2 := (hb.cell (p := ⟨w12.heap.size, 2, none⟩) (by first | omega | (simp; done) | (simp; omega))).trans (by go_cell : _ = some (.int .i64 0))
    have z25_0_2 := (hb.frozen (p := ⟨w12.heap.size, 2, none⟩) (by first | omega | (simp; done) | (simp; omega))).trans (by go_cell : _ = false)
    have t25_0_3 := (hb.cell (p := ⟨w12.heap.size, 3, none⟩) (by first | omega | (simp; done) | (simp; omega))).trans (by go_cell : _ = some (.int .i64 0))
    have z25_0_3 := (hb.frozen (p := ⟨w12.heap.size, 3, none⟩) (by first | omega | (simp; done) | (simp; omega))).trans (by go_cell : _ = false)
    have l25_0 : w12.heap.size < w25.heap.size := by have hs := hb.size; (try simp at hs); omega
    clear hb hHeld
    obtain ⟨r, hr⟩ : ∃ r, (mulR ⟨⟨A1, A2⟩, ⟨0, 0⟩⟩ ⟨⟨u1, u2⟩, ⟨u3, u4⟩⟩) = r := ⟨_, rfl⟩
    rw [hr] at he
    have HR4 := Lib.hid hr
    clear hr
    rcases r with ⟨⟨v1, v2⟩, ⟨v3, v4⟩⟩ | k
    case' bad =>
      obtain rfl : e = .panicked [{ v := .iface 26 (.int .i64 k), recovered := false }] := he
      refine ⟨rfl, ?_, by go_grown⟩
      rw [← HSP.out]; simp only [ringS, HR0.out, HR1.out, HR3.out, HR4.out, Out.binds, IsR]; (try rfl)
    obtain rfl : e = .returned (.agg #[.int .i64 v1, .int .i64 v2, .int .i64 v3, .int .i64 v4]) := he
    have HO4 := Lib.hid ((okR_iff _).1 (mulR_ok HR4.out))
    refine hK.out _ _ (G0.out _ HD25) (fun hHeld => ?_)
    clear hK K
    try simp only [act_all]
    refine wpAnyH_ready (rs := [7]) (by kernel_rfl) (by simp) ?_
    refine AllReadyH.cons (o := _) rfl (fun K hK => ?_) AllReadyH.nil
    obtain ⟨_, _⟩ := G0.out _ HD25
    obtain ⟨_, _, _, _, _, _, _, _, _, _, _, _⟩ := G1.out _ HD25
    have nb0 : g2 < w25.heap.size := by omega
    have nx0 : ¬ w12.heap.size = g2 := by omega
    have nb1 : g3 < w25.heap.size := by omega
    have nx1 : ¬ w12.heap.size = g3 := by omega
    go_simp
    refine hK.out _ _ (by refine ⟨?_, ?_⟩ <;> go_cell) (fun hHeld => ?_)
    clear hK K
    try simp only [act_all]
    refine wpAnyH_done (by kernel_rfl) ?_ _
    go_upto_region 3 with fail
    have nq1 : CB < w25.heap.size := by omega
    have nq2 : w.heap.size < w25.heap.size := by omega
    have DE : Below w.heap.size w ((((w25.setCell ⟨w12.heap.size, 0, none⟩ (.int .i64 v1)).setCell ⟨w12.heap.size, 1, none⟩ (.int .i64 v2)).setCell ⟨w12.heap.size, 2, none⟩ (.int .i64 v3)).setCell ⟨w12.heap.size, 3, none⟩ (.int .i64 v4)) := ((((DA25).setCell (p := ⟨w12.heap.size, 0, none⟩) (by simp only; omega) (.int .i64 v1)).setCell (p := ⟨w12.heap.size, 1, none⟩) (by simp only; omega) (.int .i64 v2)).setCell (p := ⟨w12.heap.size, 2, none⟩) (by simp only; omega) (.int .i64 v3)).setCell (p := ⟨w12.heap.size, 3, none⟩) (by simp only; omega) (.int .i64 v4)
    have yr0 : ((((w25.setCell ⟨w12.heap.size, 0, none⟩ (.int .i64 v1)).setCell ⟨w12.heap.size, 1, none⟩ (.int .i64 v2)).setCell ⟨w12.heap.size, 2, none⟩ (.int .i64 v3)).setCell ⟨w12.heap.size, 3, none⟩ (.int .i64 v4)).cell? ⟨w.heap.size, 0, none⟩ = some (.int .i64 0) := by go_cell
    have fyr0 : ((((w25.setCell ⟨w12.heap.size, 0, none⟩ (.int .i64 v1)).setCell ⟨w12.heap.size, 1, none⟩ (.int .i64 v2)).setCell ⟨w12.heap.size, 2, none⟩ (.int .i64 v3)).setCell ⟨w12.heap.size, 3, none⟩ (.int .i64 v4)).frozen? ⟨w.heap.size, 0, none⟩ = false := by go_cell
    have yr1 : ((((w25.setCell ⟨w12.heap.size, 0, none⟩ (.int .i64 v1)).setCell ⟨w12.heap.size, 1, none⟩ (.int .i64 v2)).setCell ⟨w12.heap.size, 2, none⟩ (.int .i64 v3)).setCell ⟨w12.heap.size, 3, none⟩ (.int .i64 v4)).cell? ⟨w.heap.size, 1, none⟩ = some (.int .i64 0) := by go_cell
    have fyr1 : ((((w25.setCell ⟨w12.heap.size, 0, none⟩ (.int .i64 v1)).setCell ⟨w12.heap.size, 1, none⟩ (.int .i64 v2)).setCell ⟨w12.heap.size, 2, none⟩ (.int .i64 v3)).setCell ⟨w12.heap.size, 3, none⟩ (.int .i64 v4)).frozen? ⟨w.heap.size, 1, none⟩ = false := by go_cell
    have yr2 : ((((w25.setCell ⟨w12.heap.size, 0, none⟩ (.int .i64 v1)).setCell ⟨w12.heap.size, 1, none⟩ (.int .i64 v2)).setCell ⟨w12.heap.size, 2, none⟩ (.int .i64 v3)).setCell ⟨w12.heap.size, 3, none⟩ (.int .i64 v4)).cell? ⟨w.heap.size, 2, none⟩ = some (.int .i64 0) := by go_cell
    have fyr2 : ((((w25.setCell ⟨w12.heap.size, 0, none⟩ (.int .i64 v1)).setCell ⟨w12.heap.size, 1, none⟩ (.int .i64 v2)).setCell ⟨w12.heap.size, 2, none⟩ (.int .i64 v3)).setCell ⟨w12.heap.size, 3, none⟩ (.int .i64 v4)).frozen? ⟨w.heap.size, 2, none⟩ = false := by go_cell
    have yr3 : ((((w25.setCell ⟨w12.heap.size, 0, none⟩ (.int .i64 v1)).setCell ⟨w12.heap.size, 1, none⟩ (.int .i64 v2)).setCell ⟨w12.heap.size, 2, none⟩ (.int .i64 v3)).setCell ⟨w12.heap.size, 3, none⟩ (.int .i64 v4)).cell? ⟨w.heap.size, 3, none⟩ = some (.int .i64 0) := by go_cell
    have fyr3 : ((((w25.setCell ⟨w12.heap.size, 0, none⟩ (.int .i64 v1)).setCell ⟨w12.heap.size, 1, none⟩ (.int .i64 v2)).setCell ⟨w12.heap.size, 2, none⟩ (.int .i64 v3)).setCell ⟨w12.heap.size, 3, none⟩ (.int .i64 v4)).frozen? ⟨w.heap.size, 3, none⟩ = false := by go_cell
    have yc0 : ((((w25.setCell ⟨w12.heap.size, 0, none⟩ (.int .i64 v1)).setCell ⟨w12.heap.size, 1, none⟩ (.int .i64 v2)).setCell ⟨w12.heap.size, 2, none⟩ (.int .i64 v3)).setCell ⟨w12.heap.size, 3, none⟩ (.int .i64 v4)).cell? ⟨CB, 0, none⟩ = some (.int .i64 T1) := by go_cell
    have yc1 : ((((w25.setCell ⟨w12.heap.size, 0, none⟩ (.int .i64 v1)).setCell ⟨w12.heap.size, 1, none⟩ (.int .i64 v2)).setCell ⟨w12.heap.size, 2, none⟩ (.int .i64 v3)).setCell ⟨w12.heap.size, 3, none⟩ (.int .i64 v4)).cell? ⟨CB, 1, none⟩ = some (.int .i64 T2) := by go_cell
    have yc2 : ((((w25.setCell ⟨w12.heap.size, 0, none⟩ (.int .i64 v1)).setCell ⟨w12.heap.size, 1, none⟩ (.int .i64 v2)).setCell ⟨w12.heap.size, 2, none⟩ (.int .i64 v3)).setCell ⟨w12.heap.size, 3, none⟩ (.int .i64 v4)).cell? ⟨CB, 2, none⟩ = some (.int .i64 0) := by go_cell
    have yc3 : ((((w25.setCell ⟨w12.heap.size, 0, none⟩ (.int .i64 v1)).setCell ⟨w12.heap.size, 1, none⟩ (.int .i64 v2)).setCell ⟨w12.heap.size, 2, none⟩ (.int .i64 v3)).setCell ⟨w12.heap.size, 3, none⟩ (.int .i64 v4)).cell? ⟨CB, 3, none⟩ = some (.int .i64 0) := by go_cell
    have yv0 : ((((w25.setCell ⟨w12.heap.size, 0, none⟩ (.int .i64 v1)).setCell ⟨w12.heap.size, 1, none⟩ (.int .i64 v2)).setCell ⟨w12.heap.size, 2, none⟩ (.int .i64 v3)).setCell ⟨w12.heap.size, 3, none⟩ (.int .i64 v4)).cell? ⟨w12.heap.size, 0, none⟩ = some (.int .i64 v1) := by go_cell
    have yv1 : ((((w25.setCell ⟨w12.heap.size, 0, none⟩ (.int .i64 v1)).setCell ⟨w12.heap.size, 1, none⟩ (.int .i64 v2)).setCell ⟨w12.heap.size, 2, none⟩ (.int .i64 v3)).setCell ⟨w12.heap.size, 3, none⟩ (.int .i64 v4)).cell? ⟨w12.heap.size, 1, none⟩ = some (.int .i64 v2) := by go_cell
    have yv2 : ((((w25.setCell ⟨w12.heap.size, 0, none⟩ (.int .i64 v1)).setCell ⟨w12.heap.size, 1, none⟩ (.int .i64 v2)).setCell ⟨w12.heap.size, 2, none⟩ (.int .i64 v3)).setCell ⟨w12.heap.size, 3, none⟩ (.int .i64 v4)).cell? ⟨w12.heap.size, 2, none⟩ = some (.int .i64 v3) := by go_cell
    have yv3 : ((((w25.setCell ⟨w12.heap.size, 0, none⟩ (.int .i64 v1)).setCell ⟨w12.heap.size, 1, none⟩ (.int .i64 v2)).setCell ⟨w12.heap.size, 2, none⟩ (.int .i64 v3)).setCell ⟨w12.heap.size, 3, none⟩ (.int .i64 v4)).cell? ⟨w12.heap.size, 3, none⟩ = some (.int .i64 v4) := by go_cell
    have sE1 : w12.heap.size < ((((w25.setCell ⟨w12.heap.size, 0, none⟩ (.int .i64 v1)).setCell ⟨w12.heap.size, 1, none⟩ (.int .i64 v2)).setCell ⟨w12.heap.size, 2, none⟩ (.int .i64 v3)).setCell ⟨w12.heap.size, 3, none⟩ (.int .i64 v4)).heap.size := by first | (simp; done) | (simp; omega)
    have sE2 : CB < ((((w25.setCell ⟨w12.heap.size, 0, none⟩ (.int .i64 v1)).setCell ⟨w12.heap.size, 1, none⟩ (.int .i64 v2)).setCell ⟨w12.heap.size, 2, none⟩ (.int .i64 v3)).setCell ⟨w12.heap.size, 3, none⟩ (.int .i64 v4)).heap.size := by first | (simp; done) | (simp; omega)
    have sE3 : w.heap.size < ((((w25.setCell ⟨w12.heap.size, 0, none⟩ (.int .i64 v1)).setCell ⟨w12.heap.size, 1, none⟩ (.int .i64 v2)).setCell ⟨w12.heap.size, 2, none⟩ (.int .i64 v3)).setCell ⟨w12.heap.size, 3, none⟩ (.int .i64 v4)).heap.size := by first | (simp; done) | (simp; omega)
    clear hHeld
    generalize ((((w25.setCell ⟨w12.heap.size, 0, none⟩ (.int .i64 v1)).setCell ⟨w12.heap.size, 1, none⟩ (.int .i64 v2)).setCell ⟨w12.heap.size, 2, none⟩ (.int .i64 v3)).setCell ⟨w12.heap.size, 3, none⟩ (.int .i64 v4)) = V at *
    generalize w12.heap.size = XB at *
    go_wp2_with fail
    refine (subRect_any T1 T2 0 0 v1 v2 v3 v4 _ HO0.out h0k.out HO4.out.1 HO4.out.2).mono ?_
    rintro e w5 ⟨he, hb⟩
    have D5 : Below w.heap.size w w5 := DE.trans (hb.mono (by omega))
    have hs5 := hb.size
    obtain ⟨k1, k2⟩ := bcl hb
    have qr0 := (k1 (w.heap.size) 0 (by first | omega | (simp; done) | (simp; omega))).trans yr0
    have fqr0 := (k2 (w.heap.size) 0 (by first | omega | (simp; done) | (simp; omega))).trans fyr0
    have qr1 := (k1 (w.heap.size) 1 (by first | omega | (simp; done) | (simp; omega))).trans yr1
    have fqr1 := (k2 (w.heap.size) 1 (by first | omega | (simp; done) | (simp; omega))).trans fyr1
    have qr2 := (k1 (w.heap.size) 2 (by first | omega | (simp; done) | (simp; omega))).trans yr2
    have fqr2 := (k2 (w.heap.size) 2 (by first | omega | (simp; done) | (simp; omega))).trans fyr2
    have qr3 := (k1 (w.heap.size) 3 (by first | omega | (simp; done) | (simp; omega))).trans yr3
    have fqr3 := (k2 (w.heap.size) 3 (by first | omega | (simp; done) | (simp; omega))).trans fyr3
    have qc0 := (k1 (CB) 0 (by first | omega | (simp; done) | (simp; omega))).trans yc0
    have qc1 := (k1 (CB) 1 (by first | omega | (simp; done) | (simp; omega))).trans yc1
    have qc2 := (k1 (CB) 2 (by first | omega | (simp; done) | (simp; omega))).trans yc2
    have qc3 := (k1 (CB) 3 (by first | omega | (simp; done) | (simp; omega))).trans yc3
    have qv0 := (k1 (XB) 0 (by first | omega | (simp; done) | (simp; omega))).trans yv0
    have qv1 := (k1 (XB) 1 (by first | omega | (simp; done) | (simp; omega))).trans yv1
    have qv2 := (k1 (XB) 2 (by first | omega | (simp; done) | (simp; omega))).trans yv2
    have qv3 := (k1 (XB) 3 (by first | omega | (simp; done) | (simp; omega))).trans yv3
    clear k1 k2
    clear hb DE yr0 fyr0 yr1 fyr1 yr2 fyr2 yr3 fyr3 yc0 yc1 yc2 yc3 yv0 yv1 yv2 yv3
    obtain ⟨r, hr⟩ : ∃ r, (subR ⟨⟨T1, T2⟩, ⟨0, 0⟩⟩ ⟨⟨v1, v2⟩, ⟨v3, v4⟩⟩) = r := ⟨_, rfl⟩
    rw [hr] at he
    have HR5 := Lib.hid hr
    clear hr
    rcases r with ⟨⟨z1, z2⟩, ⟨z3, z4⟩⟩ | k
    case' bad =>
      obtain rfl : e = .panicked [{ v := .iface 26 (.int .i64 k), recovered := false }] := he
      go_wp2_with fail
      refine ⟨rfl, ?_, by go_grown⟩
      rw [← HSP.out]; simp only [ringS, HR0.out, HR1.out, HR3.out, HR4.out, HR5.out, Out.binds, IsR]; (try rfl)
    obtain rfl : e = .returned (.agg #[.int .i64 z1, .int .i64 z2, .int .i64 z3, .int .i64 z4]) := he
    have HO5 := Lib.hid ((okR_iff _).1 (subR_ok HR5.out))
    go_upto_region 4 with fail
    have nr1 : CB < w5.heap.size := by omega
    have nr2 : XB < w5.heap.size := by omega
    have nr3 : w.heap.size < w5.heap.size := by omega
    have xr0 : (w5.alloc (Obj.cells #[.int .i64 z1, .int .i64 z2, .int .i64 z3, .int .i64 z4] 25)).cell? ⟨w.heap.size, 0, none⟩ = some (.int .i64 0) := by go_cell
    have fxr0 : (w5.alloc (Obj.cells #[.int .i64 z1, .int .i64 z2, .int .i64 z3, .int .i64 z4] 25)).frozen? ⟨w.heap.size, 0, none⟩ = false := by go_cell
    have xr1 : (w5.alloc (Obj.cells #[.int .i64 z1, .int .i64 z2, .int .i64 z3, .int .i64 z4] 25)).cell? ⟨w.heap.size, 1, none⟩ = some (.int .i64 0) := by go_cell
    have fxr1 : (w5.alloc (Obj.cells #[.int .i64 z1, .int .i64 z2, .int .i64 z3, .int .i64 z4] 25)).frozen? ⟨w.heap.size, 1, none⟩ = false := by go_cell
    have xr2 : (w5.alloc (Obj.cells #[.int .i64 z1, .int .i64 z2, .int .i64 z3, .int .i64 z4] 25)).cell? ⟨w.heap.size, 2, none⟩ = some (.int .i64 0) := by go_cell
    have fxr2 : (w5.alloc (Obj.cells #[.int .i64 z1, .int .i64 z2, .int .i64 z3, .int .i64 z4] 25)).frozen? ⟨w.heap.size, 2, none⟩ = false := by go_cell
    have xr3 : (w5.alloc (Obj.cells #[.int .i64 z1, .int .i64 z2, .int .i64 z3, .int .i64 z4] 25)).cell? ⟨w.heap.size, 3, none⟩ = some (.int .i64 0) := by go_cell
    have fxr3 : (w5.alloc (Obj.cells #[.int .i64 z1, .int .i64 z2, .int .i64 z3, .int .i64 z4] 25)).frozen? ⟨w.heap.size, 3, none⟩ = false := by go_cell
    have xc0 : (w5.alloc (Obj.cells #[.int .i64 z1, .int .i64 z2, .int .i64 z3, .int .i64 z4] 25)).cell? ⟨CB, 0, none⟩ = some (.int .i64 T1) := by go_cell
    have xc1 : (w5.alloc (Obj.cells #[.int .i64 z1, .int .i64 z2, .int .i64 z3, .int .i64 z4] 25)).cell? ⟨CB, 1, none⟩ = some (.int .i64 T2) := by go_cell
    have xc2 : (w5.alloc (Obj.cells #[.int .i64 z1, .int .i64 z2, .int .i64 z3, .int .i64 z4] 25)).cell? ⟨CB, 2, none⟩ = some (.int .i64 0) := by go_cell
    have xc3 : (w5.alloc (Obj.cells #[.int .i64 z1, .int .i64 z2, .int .i64 z3, .int .i64 z4] 25)).cell? ⟨CB, 3, none⟩ = some (.int .i64 0) := by go_cell
    have xv0 : (w5.alloc (Obj.cells #[.int .i64 z1, .int .i64 z2, .int .i64 z3, .int .i64 z4] 25)).cell? ⟨XB, 0, none⟩ = some (.int .i64 v1) := by go_cell
    have xv1 : (w5.alloc (Obj.cells #[.int .i64 z1, .int .i64 z2, .int .i64 z3, .int .i64 z4] 25)).cell? ⟨XB, 1, none⟩ = some (.int .i64 v2) := by go_cell
    have xv2 : (w5.alloc (Obj.cells #[.int .i64 z1, .int .i64 z2, .int .i64 z3, .int .i64 z4] 25)).cell? ⟨XB, 2, none⟩ = some (.int .i64 v3) := by go_cell
    have xv3 : (w5.alloc (Obj.cells #[.int .i64 z1, .int .i64 z2, .int .i64 z3, .int .i64 z4] 25)).cell? ⟨XB, 3, none⟩ = some (.int .i64 v4) := by go_cell
    have xz0 : (w5.alloc (Obj.cells #[.int .i64 z1, .int .i64 z2, .int .i64 z3, .int .i64 z4] 25)).cell? ⟨w5.heap.size, 0, none⟩ = some (.int .i64 z1) := by go_cell
    have xz1 : (w5.alloc (Obj.cells #[.int .i64 z1, .int .i64 z2, .int .i64 z3, .int .i64 z4] 25)).cell? ⟨w5.heap.size, 1, none⟩ = some (.int .i64 z2) := by go_cell
    have xz2 : (w5.alloc (Obj.cells #[.int .i64 z1, .int .i64 z2, .int .i64 z3, .int .i64 z4] 25)).cell? ⟨w5.heap.size, 2, none⟩ = some (.int .i64 z3) := by go_cell
    have xz3 : (w5.alloc (Obj.cells #[.int .i64 z1, .int .i64 z2, .int .i64 z3, .int .i64 z4] 25)).cell? ⟨w5.heap.size, 3, none⟩ = some (.int .i64 z4) := by go_cell
    have DE : Below w.heap.size w (w5.alloc (Obj.cells #[.int .i64 z1, .int .i64 z2, .int .i64 z3, .int .i64 z4] 25)) := D5.alloc (by omega) _
    have sF : w5.heap.size < (w5.alloc (Obj.cells #[.int .i64 z1, .int .i64 z2, .int .i64 z3, .int .i64 z4] 25)).heap.size := by simp
    clear qr0 fqr0 qr1 fqr1 qr2 fqr2 qr3 fqr3 qc0 qc1 qc2 qc3 qv0 qv1 qv2 qv3
    generalize (w5.alloc (Obj.cells #[.int .i64 z1, .int .i64 z2, .int .i64 z3, .int .i64 z4] 25)) = V' at *
    generalize w5.heap.size = ZB at *
    have J0 : Hid (∀ w', Below V'.heap.size V' w' → w'.cell? ⟨ZB, 0, none⟩ = some (.int .i64 z1) ∧ w'.cell? ⟨ZB, 1, none⟩ = some (.int .i64 z2) ∧ w'.cell? ⟨ZB, 2, none⟩ = some (.int .i64 z3) ∧ w'.cell? ⟨ZB, 3, none⟩ = some (.int .i64 z4) ∧ w'.cell? ⟨CB, 0, none⟩ = some (.int .i64 T1) ∧ w'.cell? ⟨CB, 1, none⟩ = some (.int .i64 T2) ∧ w'.cell? ⟨CB, 2, none⟩ = some (.int .i64 0) ∧ w'.cell? ⟨CB, 3, none⟩ = some (.int .i64 0) ∧ w'.cell? ⟨XB, 0, none⟩ = some (.int .i64 v1) ∧ w'.cell? ⟨XB, 1, none⟩ = some (.int .i64 v2) ∧ w'.cell? ⟨XB, 2, none⟩ = some (.int .i64 v3) ∧ w'.cell? ⟨XB, 3, none⟩ = some (.int .i64 v4)) := Lib.hid (fun w' hb => by
      have ez := fun o' => hb.cell (p := ⟨ZB, o', none⟩) (by simp only; omega)
      have ec := fun o' => hb.cell (p := ⟨CB, o', none⟩) (by simp only; omega)
      have ev := fun o' => hb.cell (p := ⟨XB, o', none⟩) (by simp only; omega)
      exact ⟨(ez _).trans xz0, (ez _).trans xz1, (ez _).trans xz2, (ez _).trans xz3, (ec _).trans xc0, (ec _).trans xc1, (ec _).trans xc2, (ec _).trans xc3, (ev _).trans xv0, (ev _).trans xv1, (ev _).trans xv2, (ev _).trans xv3⟩)
    have J1 : Hid (∀ w', Below V'.heap.size V' w' → w'.cell? ⟨w.heap.size, 0, none⟩ = some (.int .i64 0) ∧ w'.cell? ⟨w.heap.size, 1, none⟩ = some (.int .i64 0) ∧ w'.cell? ⟨w.heap.size, 2, none⟩ = some (.int .i64 0) ∧ w'.cell? ⟨w.heap.size, 3, none⟩ = some (.int .i64 0) ∧ w'.frozen? ⟨w.heap.size, 0, none⟩ = false ∧ w'.frozen? ⟨w.heap.size, 1, none⟩ = false ∧ w'.frozen? ⟨w.heap.size, 2, none⟩ = false ∧ w'.frozen? ⟨w.heap.size, 3, none⟩ = false) := Lib.hid (fun w' hb => by
      have er := fun o' => hb.cell (p := ⟨w.heap.size, o', none⟩) (by simp only; omega)
      have efr := fun o' => hb.frozen (p := ⟨w.heap.size, o', none⟩) (by simp only; omega)
      exact ⟨(er _).trans xr0, (er _).trans xr1, (er _).trans xr2, (er _).trans xr3, (efr _).trans fxr0, (efr _).trans fxr1, (efr _).trans fxr2, (efr _).trans fxr3⟩)
    have HD : Below V'.heap.size V' V' := Below.refl _ _
    have K0 := Lib.hid DE
    clear DE xz0 xz1 xz2 xz3 xc0 xc1 xc2 xc3 xv0 xv1 xv2 xv3 xr0 fxr0 xr1 fxr1 xr2 fxr2 xr3 fxr3
    have HD31 : Below V'.heap.size V' V'.drew := HD.drew
    refine wp_region_held_drew (S := fun w' => w'.cell? ⟨ZB, 0, none⟩ = some (.int .i64 z1) ∧ w'.cell? ⟨ZB, 1, none⟩ = some (.int .i64 z2) ∧ w'.cell? ⟨ZB, 2, none⟩ = some (.int .i64 z3) ∧ w'.cell? ⟨ZB, 3, none⟩ = some (.int .i64 z4) ∧ w'.cell? ⟨CB, 0, none⟩ = some (.int .i64 T1) ∧ w'.cell? ⟨CB, 1, none⟩ = some (.int .i64 T2) ∧ w'.cell? ⟨CB, 2, none⟩ = some (.int .i64 0) ∧ w'.cell? ⟨CB, 3, none⟩ = some (.int .i64 0) ∧ w'.cell? ⟨XB, 0, none⟩ = some (.int .i64 v1) ∧ w'.cell? ⟨XB, 1, none⟩ = some (.int .i64 v2) ∧ w'.cell? ⟨XB, 2, none⟩ = some (.int .i64 v3) ∧ w'.cell? ⟨XB, 3, none⟩ = some (.int .i64 v4)) (by kernel_rfl) (J0.out _ HD31) (fun hHeld => ?_)
    refine wpAnyH_take (i := 0) (oi := _) (v := ?_) rfl (by kernel_rfl) (by kernel_rfl) (by kernel_rfl) (fun _ _ _ h => h) (Or.inl ⟨by rfl, ?_⟩) (by assumption) ?_
    rotate_left
    · intro w hSw; obtain ⟨_, _, _, _, _, _, _, _, _, _, _, _⟩ := hSw; go_simp; (try with_reducible rfl)
    try change wpAnyH _ _ _ _ _ _ _ (Act.put _ (some 19) _) _
    try simp only [act_all]
    refine wpAnyH_take (i := 3) (oi := _) (v := ?_) rfl (by kernel_rfl) (by kernel_rfl) (by kernel_rfl) (fun _ _ _ h => h) (Or.inl ⟨by rfl, ?_⟩) (by assumption) ?_
    rotate_left
    · intro w hSw; obtain ⟨_, _, _, _, _, _, _, _, _, _, _, _⟩ := hSw; go_simp; (try with_reducible rfl)
    try change wpAnyH _ _ _ _ _ _ _ (Act.put _ (some 22) _) _
    try simp only [act_all]
    refine wpAnyH_take (i := 4) (oi := _) (v := ?_) rfl (by kernel_rfl) (by kernel_rfl) (by kernel_rfl) (fun _ _ _ h => h) (Or.inl ⟨by rfl, ?_⟩) (by assumption) ?_
    rotate_left
    · intro w hSw; obtain ⟨_, _, _, _, _, _, _, _, _, _, _, _⟩ := hSw; go_simp; (try with_reducible rfl)
    try change wpAnyH _ _ _ _ _ _ _ (Act.put _ (some 23) _) _
    try simp only [act_all]
    refine wpAnyH_ready (rs := [1]) (by kernel_rfl) (by simp) ?_
    refine AllReadyH.cons (o := _) rfl (fun K hK => ?_) AllReadyH.nil
    go_simp
    refine ((whole_any 1 _ (by omega) (by omega)).mono (fun e w' h => (by rw [show (1 : Int) * 1073741824 = 1073741824 from rfl] at h; exact h : e = retS ⟨1073741824, 1073741824⟩ ∧ Below _ _ w'))).mono ?_
    rintro e w32 ⟨he, hb⟩
    have HD32 : Below V'.heap.size V' w32 := Below.trans HD31 (hb.mono HD31.size)
    have hz32 := HD32.size
    have DA32 := K0.out.trans (HD32.mono (show w.heap.size ≤ V'.heap.size by omega))
    clear hb hHeld
    obtain rfl : e = .returned (.agg #[.int .i64 1073741824, .int .i64 1073741824]) := he
    refine hK.out _ _ (J0.out _ HD32) (fun hHeld => ?_)
    clear hK K
    try simp only [act_all]
    refine wpAnyH_ready (rs := [2]) (by kernel_rfl) (by simp) ?_
    refine AllReadyH.cons (o := _) rfl (fun K hK => ?_) AllReadyH.nil
    go_simp
    refine (onAxis_any 1073741824 1073741824 _).mono ?_
    rintro e w33 ⟨he, hb⟩
    have HD33 : Below V'.heap.size V' w33 := Below.trans HD32 (hb.mono HD32.size)
    have hz33 := HD33.size
    have DA33 := K0.out.trans (HD33.mono (show w.heap.size ≤ V'.heap.size by omega))
    clear hb hHeld
    obtain rfl : e = .returned (.agg #[.int .i64 1073741824, .int .i64 1073741824, .int .i64 0, .int .i64 0]) := he
    refine hK.out _ _ (J0.out _ HD33) (fun hHeld => ?_)
    clear hK K
    try simp only [act_all]
    refine wpAnyH_ready (rs := [5]) (by kernel_rfl) (by simp) ?_
    refine AllReadyH.cons (o := _) rfl (fun K hK => ?_) AllReadyH.nil
    go_simp
    refine (mulRect_any T1 T2 0 0 v1 v2 v3 v4 _ HO0.out h0k.out HO4.out.1 HO4.out.2).mono ?_
    rintro e w34 ⟨he, hb⟩
    have HD34 : Below V'.heap.size V' w34 := Below.trans HD33 (hb.mono HD33.size)
    have hz34 := HD34.size
    have DA34 := K0.out.trans (HD34.mono (show w.heap.size ≤ V'.heap.size by omega))
    clear hb hHeld
    obtain ⟨r, hr⟩ : ∃ r, (mulR ⟨⟨T1, T2⟩, ⟨0, 0⟩⟩ ⟨⟨v1, v2⟩, ⟨v3, v4⟩⟩) = r := ⟨_, rfl⟩
    rw [hr] at he
    have HR10 := Lib.hid hr
    clear hr
    rcases r with ⟨⟨x1, x2⟩, ⟨x3, x4⟩⟩ | k
    case' bad =>
      obtain rfl : e = .panicked [{ v := .iface 26 (.int .i64 k), recovered := false }] := he
      refine ⟨rfl, ?_, by go_grown⟩
      rw [← HSP.out]; simp only [ringS, HR0.out, HR1.out, HR3.out, HR4.out, HR5.out, HR10.out, Out.binds, IsR]; (try rfl)
    obtain rfl : e = .returned (.agg #[.int .i64 x1, .int .i64 x2, .int .i64 x3, .int .i64 x4]) := he
    have HO10 := Lib.hid ((okR_iff _).1 (mulR_ok HR10.out))
    refine hK.out _ _ (J0.out _ HD34) (fun hHeld => ?_)
    clear hK K
    try simp only [act_all]
    refine wpAnyH_ready (rs := [6]) (by kernel_rfl) (by simp) ?_
    refine AllReadyH.cons (o := _) rfl (fun K hK => ?_) AllReadyH.nil
    go_simp
    refine (subRect_any 1073741824 1073741824 0 0 x1 x2 x3 x4 _ h1k.out h0k.out HO10.out.1 HO10.out.2).mono ?_
    rintro e w35 ⟨he, hb⟩
    have HD35 : Below V'.heap.size V' w35 := Below.trans HD34 (hb.mono HD34.size)
    have hz35 := HD35.size
    have DA35 := K0.out.trans (HD35.mono (show w.heap.size ≤ V'.heap.size by omega))
    clear hb hHeld
    obtain ⟨r, hr⟩ : ∃ r, (subR ⟨⟨1073741824, 1073741824⟩, ⟨0, 0⟩⟩ ⟨⟨x1, x2⟩, ⟨x3, x4⟩⟩) = r := ⟨_, rfl⟩
    rw [hr] at he
    have HR11 := Lib.hid hr
    clear hr
    rcases r with ⟨⟨d1, d2⟩, ⟨d3, d4⟩⟩ | k
    case' bad =>
      obtain rfl : e = .panicked [{ v := .iface 26 (.int .i64 k), recovered := false }] := he
      refine ⟨rfl, ?_, by go_grown⟩
      rw [← HSP.out]; simp only [ringS, HR0.out, HR1.out, HR3.out, HR4.out, HR5.out, HR10.out, HR11.out, Out.binds, IsR]; (try rfl)
    obtain rfl : e = .returned (.agg #[.int .i64 d1, .int .i64 d2, .int .i64 d3, .int .i64 d4]) := he
    have HO11 := Lib.hid ((okR_iff _).1 (subR_ok HR11.out))
    refine hK.out _ _ (J0.out _ HD35) (fun hHeld => ?_)
    clear hK K
    try simp only [act_all]
    refine wpAnyH_ready (rs := [7]) (by kernel_rfl) (by simp) ?_
    refine AllReadyH.cons (o := _) rfl (fun K hK => ?_) AllReadyH.nil
    go_simp
    refine (divRect_any z1 z2 z3 z4 d1 d2 d3 d4 _ HO5.out.1 HO5.out.2 HO11.out.1 HO11.out.2).mono ?_
    rintro e w36 ⟨he, hb⟩
    have HD36 : Below V'.heap.size V' w36 := Below.trans HD35 (hb.mono HD35.size)
    have hz36 := HD36.size
    have DA36 := K0.out.trans (HD36.mono (show w.heap.size ≤ V'.heap.size by omega))
    clear hb hHeld
    obtain ⟨r, hr⟩ : ∃ r, (divR ⟨⟨z1, z2⟩, ⟨z3, z4⟩⟩ ⟨⟨d1, d2⟩, ⟨d3, d4⟩⟩) = r := ⟨_, rfl⟩
    rw [hr] at he
    have HR12 := Lib.hid hr
    clear hr
    rcases r with ⟨⟨p1, q1⟩, ⟨p2, q2⟩⟩ | k
    case' bad =>
      obtain rfl : e = .panicked [{ v := .iface 26 (.int .i64 k), recovered := false }] := he
      refine ⟨rfl, ?_, by go_grown⟩
      rw [← HSP.out]; simp only [ringS, HR0.out, HR1.out, HR3.out, HR4.out, HR5.out, HR10.out, HR11.out, HR12.out, Out.binds, IsR]; (try rfl)
    obtain rfl : e = .returned (.agg #[.int .i64 p1, .int .i64 q1, .int .i64 p2, .int .i64 q2]) := he
    refine hK.out _ _ (J0.out _ HD36) (fun hHeld => ?_)
    clear hK K
    try simp only [act_all]
    refine wpAnyH_ready (rs := [8]) (by kernel_rfl) (by simp) ?_
    refine AllReadyH.cons (o := _) rfl (fun K hK => ?_) AllReadyH.nil
    obtain ⟨_, _, _, _, _, _, _, _, _, _, _, _⟩ := J0.out _ HD36
    obtain ⟨_, _, _, _, _, _, _, _⟩ := J1.out _ HD36
    go_simp
    refine hK.out _ _ (by refine ⟨?_, ?_, ?_, ?_, ?_, ?_, ?_, ?_, ?_, ?_, ?_, ?_⟩ <;> go_cell) (fun hHeld => ?_)
    clear hK K
    try simp only [act_all]
    refine wpAnyH_done (by kernel_rfl) ?_ _
    go_wp2_with fail
    refine bodyPost_ret (v := .agg #[.int .i64 p1, .int .i64 q1, .int .i64 p2, .int .i64 q2]) (by simp [results, Try.results78, go_sem, *]) rfl ⟨?_, by go_grown⟩
    rw [← HSP.out]; simp only [ringS, HR0.out, HR1.out, HR3.out, HR4.out, HR5.out, HR10.out, HR11.out, HR12.out, Out.binds, IsR]; (try rfl)
  refine AllReadyH.cons (o := _) rfl (fun K hK => ?_) AllReadyH.nil
  have HD26 : Below W.heap.size W (W.drew.alloc (Obj.cells #[.int .i64 0, .int .i64 0, .int .i64 0, .int .i64 0] 25)) := bal HD11 _
  go_simp
  refine hK.out _ _ (G0.out _ HD26) (fun hHeld => ?_)
  clear hK K
  try simp only [act_all]
  refine wpAnyH_ready (rs := [1]) (by kernel_rfl) (by simp) ?_
  refine AllReadyH.cons (o := _) rfl (fun K hK => ?_) AllReadyH.nil
  go_simp
  refine (scaled_any a 1073741824 1000000 _ (by have := HA.out; omega) (by have := HA.out; omega) (by omega) (by omega) (by omega) (by omega)).mono ?_
  rintro e w27 ⟨he, hb⟩
  have HD27 : Below W.heap.size W w27 := Below.trans HD26 (hb.mono HD26.size)
  have hz27 := HD27.size
  have DA27 := HB0.out.trans (HD27.mono (show w.heap.size ≤ W.heap.size by omega))
  have t27_0_0 := (hb.cell (p := ⟨W.heap.size, 0, none⟩) (by first | omega | (simp; done) | (simp; omega))).trans (by go_cell : _ = some (.int .i64 0))
  have z27_0_0 := (hb.frozen (p := ⟨W.heap.size, 0, none⟩) (by first | omega | (simp; done) | (simp; omega))).trans (by go_cell : _ = false)
  have t27_0_1 := (hb.cell (p := ⟨W.heap.size, 1, none⟩) (by first | omega | (simp; done) | (simp; omega))).trans (by go_cell : _ = some (.int .i64 0))
  have z27_0_1 := (hb.frozen (p := ⟨W.heap.size, 1, none⟩) (by first | omega | (simp; done) | (simp; omega))).trans (by go_cell : _ = false)
  have t27_0_2 := (hb.cell (p := ⟨W.heap.size, 2, none⟩) (by first | omega | (simp; done) | (simp; omega))).trans (by go_cell : _ = some (.int .i64 0))
  have z27_0_2 := (hb.frozen (p := ⟨W.heap.size, 2, none⟩) (by first | omega | (simp; done) | (simp; omega))).trans (by go_cell : _ = false)
  have t27_0_3 := (hb.cell (p := ⟨W.heap.size, 3, none⟩) (by first | omega | (simp; done) | (simp; omega))).trans (by go_cell : _ = some (.int .i64 0))
  have z27_0_3 := (hb.frozen (p := ⟨W.heap.size, 3, none⟩) (by first | omega | (simp; done) | (simp; omega))).trans (by go_cell : _ = false)
  have l27_0 : W.heap.size < w27.heap.size := by have hs := hb.size; (try simp at hs); omega
  clear hb hHeld
  obtain ⟨r, hr⟩ : ∃ r, (scS a 1073741824 1000000) = r := ⟨_, rfl⟩
  rw [hr] at he
  have HR1 := Lib.hid hr
  clear hr
  rcases r with ⟨A1, A2⟩ | k
  case' bad =>
    obtain rfl : e = .panicked [{ v := .iface 26 (.int .i64 k), recovered := false }] := he
    refine ⟨rfl, ?_, by go_grown⟩
    rw [← HSP.out]; simp only [ringS, HR0.out, HR1.out, Out.binds, IsR]; (try rfl)
  obtain rfl : e = .returned (.agg #[.int .i64 A1, .int .i64 A2]) := he
  have HO1 := Lib.hid (inR_okS HR1.out)
  refine hK.out _ _ (G0.out _ HD27) (fun hHeld => ?_)
  clear hK K
  try simp only [act_all]
  refine wpAnyH_ready (rs := [2]) (by kernel_rfl) (by simp) ?_
  refine AllReadyH.cons (o := _) rfl (fun K hK => ?_) AllReadyH.nil
  go_simp
  refine (onAxis_any A1 A2 _).mono ?_
  rintro e w28 ⟨he, hb⟩
  have HD28 : Below W.heap.size W w28 := Below.trans HD27 (hb.mono HD27.size)
  have hz28 := HD28.size
  have DA28 := HB0.out.trans (HD28.mono (show w.heap.size ≤ W.heap.size by omega))
  have t28_0_0 := (hb.cell (p := ⟨W.heap.size, 0, none⟩) (by first | omega | (simp; done) | (simp; omega))).trans (by go_cell : _ = some (.int .i64 0))
  have z28_0_0 := (hb.frozen (p := ⟨W.heap.size, 0, none⟩) (by first | omega | (simp; done) | (simp; omega))).trans (by go_cell : _ = false)
  have t28_0_1 := (hb.cell (p := ⟨W.heap.size, 1, none⟩) (by first | omega | (simp; done) | (simp; omega))).trans (by go_cell : _ = some (.int .i64 0))
  have z28_0_1 := (hb.frozen (p := ⟨W.heap.size, 1, none⟩) (by first | omega | (simp; done) | (simp; omega))).trans (by go_cell : _ = false)
  have t28_0_2 := (hb.cell (p := ⟨W.heap.size, 2, none⟩) (by first | omega | (simp; done) | (simp; omega))).trans (by go_cell : _ = some (.int .i64 0))
  have z28_0_2 := (hb.frozen (p := ⟨W.heap.size, 2, none⟩) (by first | omega | (simp; done) | (simp; omega))).trans (by go_cell : _ = false)
  have t28_0_3 := (hb.cell (p := ⟨W.heap.size, 3, none⟩) (by first | omega | (simp; done) | (simp; omega))).trans (by go_cell : _ = some (.int .i64 0))
  have z28_0_3 := (hb.frozen (p := ⟨W.heap.size, 3, none⟩) (by first | omega | (simp; done) | (simp; omega))).trans (by go_cell : _ = false)
  have l28_0 : W.heap.size < w28.heap.size := by have hs := hb.size; (try simp at hs); omega
  clear hb hHeld
  obtain rfl : e = .returned (.agg #[.int .i64 A1, .int .i64 A2, .int .i64 0, .int .i64 0]) := he
  refine hK.out _ _ (G0.out _ HD28) (fun hHeld => ?_)
  clear hK K
  try simp only [act_all]
  refine wpAnyH_ready (rs := [4]) (by kernel_rfl) (by simp) ?_
  refine AllReadyH.cons (o := _) rfl (fun K hK => ?_) AllReadyH.nil
  go_simp
  refine (unit_any n _).mono ?_
  rintro e w29 ⟨he, hb⟩
  have HD29 : Below W.heap.size W w29 := Below.trans HD28 (hb.mono HD28.size)
  have hz29 := HD29.size
  have DA29 := HB0.out.trans (HD29.mono (show w.heap.size ≤ W.heap.size by omega))
  have t29_0_0 := (hb.cell (p := ⟨W.heap.size, 0, none⟩) (by first | omega | (simp; done) | (simp; omega))).trans (by go_cell : _ = some (.int .i64 0))
  have z29_0_0 := (hb.frozen (p := ⟨W.heap.size, 0, none⟩) (by first | omega | (simp; done) | (simp; omega))).trans (by go_cell : _ = false)
  have t29_0_1 := (hb.cell (p := ⟨W.heap.size, 1, none⟩) (by first | omega | (simp; done) | (simp; omega))).trans (by go_cell : _ = some (.int .i64 0))
  have z29_0_1 := (hb.frozen (p := ⟨W.heap.size, 1, none⟩) (by first | omega | (simp; done) | (simp; omega))).trans (by go_cell : _ = false)
  have t29_0_2 := (hb.cell (p := ⟨W.heap.size, 2, none⟩) (by first | omega | (simp; done) | (simp; omega))).trans (by go_cell : _ = some (.int .i64 0))
  have z29_0_2 := (hb.frozen (p := ⟨W.heap.size, 2, none⟩) (by first | omega | (simp; done) | (simp; omega))).trans (by go_cell : _ = false)
  have t29_0_3 := (hb.cell (p := ⟨W.heap.size, 3, none⟩) (by first | omega | (simp; done) | (simp; omega))).trans (by go_cell : _ = some (.int .i64 0))
  have z29_0_3 := (hb.frozen (p := ⟨W.heap.size, 3, none⟩) (by first | omega | (simp; done) | (simp; omega))).trans (by go_cell : _ = false)
  have l29_0 : W.heap.size < w29.heap.size := by have hs := hb.size; (try simp at hs); omega
  clear hb hHeld
  obtain ⟨r, hr⟩ : ∃ r, (unitS n) = r := ⟨_, rfl⟩
  rw [hr] at he
  have HR3 := Lib.hid hr
  clear hr
  rcases r with ⟨⟨u1, u2⟩, ⟨u3, u4⟩⟩ | k
  case' bad =>
    obtain rfl : e = .panicked [{ v := .iface 26 (.int .i64 k), recovered := false }] := he
    refine ⟨rfl, ?_, by go_grown⟩
    rw [← HSP.out]; simp only [ringS, HR0.out, HR1.out, HR3.out, Out.binds, IsR]; (try rfl)
  obtain rfl : e = .returned (.agg #[.int .i64 u1, .int .i64 u2, .int .i64 u3, .int .i64 u4]) := he
  have HO3 := Lib.hid ((okR_iff _).1 (unitS_ok HR3.out))
  refine hK.out _ _ (G0.out _ HD29) (fun hHeld => ?_)
  clear hK K
  try simp only [act_all]
  refine wpAnyH_ready (rs := [5]) (by kernel_rfl) (by simp) ?_
  refine AllReadyH.cons (o := _) rfl (fun K hK => ?_) AllReadyH.nil
  go_simp
  refine (mulRect_any A1 A2 0 0 u1 u2 u3 u4 _ HO1.out h0k.out HO3.out.1 HO3.out.2).mono ?_
  rintro e w30 ⟨he, hb⟩
  have HD30 : Below W.heap.size W w30 := Below.trans HD29 (hb.mono HD29.size)
  have hz30 := HD30.size
  have DA30 := HB0.out.trans (HD30.mono (show w.heap.size ≤ W.heap.size by omega))
  have t30_0_0 := (hb.cell (p := ⟨W.heap.size, 0, none⟩) (by first | omega | (simp; done) | (simp; omega))).trans (by go_cell : _ = some (.int .i64 0))
  have z30_0_0 := (hb.frozen (p := ⟨W.heap.size, 0, none⟩) (by first | omega | (simp; done) | (simp; omega))).trans (by go_cell : _ = false)
  have t30_0_1 := (hb.cell (p := ⟨W.heap.size, 1, none⟩) (by first | omega | (simp; done) | (simp; omega))).trans (by go_cell : _ = some (.int .i64 0))
  have z30_0_1 := (hb.frozen (p := ⟨W.heap.size, 1, none⟩) (by first | omega | (simp; done) | (simp; omega))).trans (by go_cell : _ = false)
  have t30_0_2 := (hb.cell (p := ⟨W.heap.size, 2, none⟩) (by first | omega | (simp; done) | (simp; omega))).trans (by go_cell : _ = some (.int .i64 0))
  have z30_0_2 := (hb.frozen (p := ⟨W.heap.size, 2, none⟩) (by first | omega | (simp; done) | (simp; omega))).trans (by go_cell : _ = false)
  have t30_0_3 := (hb.cell (p := ⟨W.heap.size, 3, none⟩) (by first | omega | (simp; done) | (simp; omega))).trans (by go_cell : _ = some (.int .i64 0))
  have z30_0_3 := (hb.frozen (p := ⟨W.heap.size, 3, none⟩) (by first | omega | (simp; done) | (simp; omega))).trans (by go_cell : _ = false)
  have l30_0 : W.heap.size < w30.heap.size := by have hs := hb.size; (try simp at hs); omega
  clear hb hHeld
  obtain ⟨r, hr⟩ : ∃ r, (mulR ⟨⟨A1, A2⟩, ⟨0, 0⟩⟩ ⟨⟨u1, u2⟩, ⟨u3, u4⟩⟩) = r := ⟨_, rfl⟩
  rw [hr] at he
  have HR4 := Lib.hid hr
  clear hr
  rcases r with ⟨⟨v1, v2⟩, ⟨v3, v4⟩⟩ | k
  case' bad =>
    obtain rfl : e = .panicked [{ v := .iface 26 (.int .i64 k), recovered := false }] := he
    refine ⟨rfl, ?_, by go_grown⟩
    rw [← HSP.out]; simp only [ringS, HR0.out, HR1.out, HR3.out, HR4.out, Out.binds, IsR]; (try rfl)
  obtain rfl : e = .returned (.agg #[.int .i64 v1, .int .i64 v2, .int .i64 v3, .int .i64 v4]) := he
  have HO4 := Lib.hid ((okR_iff _).1 (mulR_ok HR4.out))
  refine hK.out _ _ (G0.out _ HD30) (fun hHeld => ?_)
  clear hK K
  try simp only [act_all]
  refine wpAnyH_ready (rs := [7]) (by kernel_rfl) (by simp) ?_
  refine AllReadyH.cons (o := _) rfl (fun K hK => ?_) AllReadyH.nil
  obtain ⟨_, _⟩ := G0.out _ HD30
  obtain ⟨_, _, _, _, _, _, _, _, _, _, _, _⟩ := G1.out _ HD30
  have nb0 : g2 < w30.heap.size := by omega
  have nx0 : ¬ W.heap.size = g2 := by omega
  have nb1 : g3 < w30.heap.size := by omega
  have nx1 : ¬ W.heap.size = g3 := by omega
  go_simp
  refine hK.out _ _ (by refine ⟨?_, ?_⟩ <;> go_cell) (fun hHeld => ?_)
  clear hK K
  try simp only [act_all]
  refine wpAnyH_done (by kernel_rfl) ?_ _
  go_upto_region 3 with fail
  have nq1 : CB < w30.heap.size := by omega
  have nq2 : w.heap.size < w30.heap.size := by omega
  have DE : Below w.heap.size w ((((w30.setCell ⟨W.heap.size, 0, none⟩ (.int .i64 v1)).setCell ⟨W.heap.size, 1, none⟩ (.int .i64 v2)).setCell ⟨W.heap.size, 2, none⟩ (.int .i64 v3)).setCell ⟨W.heap.size, 3, none⟩ (.int .i64 v4)) := ((((DA30).setCell (p := ⟨W.heap.size, 0, none⟩) (by simp only; omega) (.int .i64 v1)).setCell (p := ⟨W.heap.size, 1, none⟩) (by simp only; omega) (.int .i64 v2)).setCell (p := ⟨W.heap.size, 2, none⟩) (by simp only; omega) (.int .i64 v3)).setCell (p := ⟨W.heap.size, 3, none⟩) (by simp only; omega) (.int .i64 v4)
  have yr0 : ((((w30.setCell ⟨W.heap.size, 0, none⟩ (.int .i64 v1)).setCell ⟨W.heap.size, 1, none⟩ (.int .i64 v2)).setCell ⟨W.heap.size, 2, none⟩ (.int .i64 v3)).setCell ⟨W.heap.size, 3, none⟩ (.int .i64 v4)).cell? ⟨w.heap.size, 0, none⟩ = some (.int .i64 0) := by go_cell
  have fyr0 : ((((w30.setCell ⟨W.heap.size, 0, none⟩ (.int .i64 v1)).setCell ⟨W.heap.size, 1, none⟩ (.int .i64 v2)).setCell ⟨W.heap.size, 2, none⟩ (.int .i64 v3)).setCell ⟨W.heap.size, 3, none⟩ (.int .i64 v4)).frozen? ⟨w.heap.size, 0, none⟩ = false := by go_cell
  have yr1 : ((((w30.setCell ⟨W.heap.size, 0, none⟩ (.int .i64 v1)).setCell ⟨W.heap.size, 1, none⟩ (.int .i64 v2)).setCell ⟨W.heap.size, 2, none⟩ (.int .i64 v3)).setCell ⟨W.heap.size, 3, none⟩ (.int .i64 v4)).cell? ⟨w.heap.size, 1, none⟩ = some (.int .i64 0) := by go_cell
  have fyr1 : ((((w30.setCell ⟨W.heap.size, 0, none⟩ (.int .i64 v1)).setCell ⟨W.heap.size, 1, none⟩ (.int .i64 v2)).setCell ⟨W.heap.size, 2, none⟩ (.int .i64 v3)).setCell ⟨W.heap.size, 3, none⟩ (.int .i64 v4)).frozen? ⟨w.heap.size, 1, none⟩ = false := by go_cell
  have yr2 : ((((w30.setCell ⟨W.heap.size, 0, none⟩ (.int .i64 v1)).setCell ⟨W.heap.size, 1, none⟩ (.int .i64 v2)).setCell ⟨W.heap.size, 2, none⟩ (.int .i64 v3)).setCell ⟨W.heap.size, 3, none⟩ (.int .i64 v4)).cell? ⟨w.heap.size, 2, none⟩ = some (.int .i64 0) := by go_cell
  have fyr2 : ((((w30.setCell ⟨W.heap.size, 0, none⟩ (.int .i64 v1)).setCell ⟨W.heap.size, 1, none⟩ (.int .i64 v2)).setCell ⟨W.heap.size, 2, none⟩ (.int .i64 v3)).setCell ⟨W.heap.size, 3, none⟩ (.int .i64 v4)).frozen? ⟨w.heap.size, 2, none⟩ = false := by go_cell
  have yr3 : ((((w30.setCell ⟨W.heap.size, 0, none⟩ (.int .i64 v1)).setCell ⟨W.heap.size, 1, none⟩ (.int .i64 v2)).setCell ⟨W.heap.size, 2, none⟩ (.int .i64 v3)).setCell ⟨W.heap.size, 3, none⟩ (.int .i64 v4)).cell? ⟨w.heap.size, 3, none⟩ = some (.int .i64 0) := by go_cell
  have fyr3 : ((((w30.setCell ⟨W.heap.size, 0, none⟩ (.int .i64 v1)).setCell ⟨W.heap.size, 1, none⟩ (.int .i64 v2)).setCell ⟨W.heap.size, 2, none⟩ (.int .i64 v3)).setCell ⟨W.heap.size, 3, none⟩ (.int .i64 v4)).frozen? ⟨w.heap.size, 3, none⟩ = false := by go_cell
  have yc0 : ((((w30.setCell ⟨W.heap.size, 0, none⟩ (.int .i64 v1)).setCell ⟨W.heap.size, 1, none⟩ (.int .i64 v2)).setCell ⟨W.heap.size, 2, none⟩ (.int .i64 v3)).setCell ⟨W.heap.size, 3, none⟩ (.int .i64 v4)).cell? ⟨CB, 0, none⟩ = some (.int .i64 T1) := by go_cell
  have yc1 : ((((w30.setCell ⟨W.heap.size, 0, none⟩ (.int .i64 v1)).setCell ⟨W.heap.size, 1, none⟩ (.int .i64 v2)).setCell ⟨W.heap.size, 2, none⟩ (.int .i64 v3)).setCell ⟨W.heap.size, 3, none⟩ (.int .i64 v4)).cell? ⟨CB, 1, none⟩ = some (.int .i64 T2) := by go_cell
  have yc2 : ((((w30.setCell ⟨W.heap.size, 0, none⟩ (.int .i64 v1)).setCell ⟨W.heap.size, 1, none⟩ (.int .i64 v2)).setCell ⟨W.heap.size, 2, none⟩ (.int .i64 v3)).setCell ⟨W.heap.size, 3, none⟩ (.int .i64 v4)).cell? ⟨CB, 2, none⟩ = some (.int .i64 0) := by go_cell
  have yc3 : ((((w30.setCell ⟨W.heap.size, 0, none⟩ (.int .i64 v1)).setCell ⟨W.heap.size, 1, none⟩ (.int .i64 v2)).setCell ⟨W.heap.size, 2, none⟩ (.int .i64 v3)).setCell ⟨W.heap.size, 3, none⟩ (.int .i64 v4)).cell? ⟨CB, 3, none⟩ = some (.int .i64 0) := by go_cell
  have yv0 : ((((w30.setCell ⟨W.heap.size, 0, none⟩ (.int .i64 v1)).setCell ⟨W.heap.size, 1, none⟩ (.int .i64 v2)).setCell ⟨W.heap.size, 2, none⟩ (.int .i64 v3)).setCell ⟨W.heap.size, 3, none⟩ (.int .i64 v4)).cell? ⟨W.heap.size, 0, none⟩ = some (.int .i64 v1) := by go_cell
  have yv1 : ((((w30.setCell ⟨W.heap.size, 0, none⟩ (.int .i64 v1)).setCell ⟨W.heap.size, 1, none⟩ (.int .i64 v2)).setCell ⟨W.heap.size, 2, none⟩ (.int .i64 v3)).setCell ⟨W.heap.size, 3, none⟩ (.int .i64 v4)).cell? ⟨W.heap.size, 1, none⟩ = some (.int .i64 v2) := by go_cell
  have yv2 : ((((w30.setCell ⟨W.heap.size, 0, none⟩ (.int .i64 v1)).setCell ⟨W.heap.size, 1, none⟩ (.int .i64 v2)).setCell ⟨W.heap.size, 2, none⟩ (.int .i64 v3)).setCell ⟨W.heap.size, 3, none⟩ (.int .i64 v4)).cell? ⟨W.heap.size, 2, none⟩ = some (.int .i64 v3) := by go_cell
  have yv3 : ((((w30.setCell ⟨W.heap.size, 0, none⟩ (.int .i64 v1)).setCell ⟨W.heap.size, 1, none⟩ (.int .i64 v2)).setCell ⟨W.heap.size, 2, none⟩ (.int .i64 v3)).setCell ⟨W.heap.size, 3, none⟩ (.int .i64 v4)).cell? ⟨W.heap.size, 3, none⟩ = some (.int .i64 v4) := by go_cell
  have sE1 : W.heap.size < ((((w30.setCell ⟨W.heap.size, 0, none⟩ (.int .i64 v1)).setCell ⟨W.heap.size, 1, none⟩ (.int .i64 v2)).setCell ⟨W.heap.size, 2, none⟩ (.int .i64 v3)).setCell ⟨W.heap.size, 3, none⟩ (.int .i64 v4)).heap.size := by first | (simp; done) | (simp; omega)
  have sE2 : CB < ((((w30.setCell ⟨W.heap.size, 0, none⟩ (.int .i64 v1)).setCell ⟨W.heap.size, 1, none⟩ (.int .i64 v2)).setCell ⟨W.heap.size, 2, none⟩ (.int .i64 v3)).setCell ⟨W.heap.size, 3, none⟩ (.int .i64 v4)).heap.size := by first | (simp; done) | (simp; omega)
  have sE3 : w.heap.size < ((((w30.setCell ⟨W.heap.size, 0, none⟩ (.int .i64 v1)).setCell ⟨W.heap.size, 1, none⟩ (.int .i64 v2)).setCell ⟨W.heap.size, 2, none⟩ (.int .i64 v3)).setCell ⟨W.heap.size, 3, none⟩ (.int .i64 v4)).heap.size := by first | (simp; done) | (simp; omega)
  clear hHeld
  generalize ((((w30.setCell ⟨W.heap.size, 0, none⟩ (.int .i64 v1)).setCell ⟨W.heap.size, 1, none⟩ (.int .i64 v2)).setCell ⟨W.heap.size, 2, none⟩ (.int .i64 v3)).setCell ⟨W.heap.size, 3, none⟩ (.int .i64 v4)) = V at *
  generalize W.heap.size = XB at *
  go_wp2_with fail
  refine (subRect_any T1 T2 0 0 v1 v2 v3 v4 _ HO0.out h0k.out HO4.out.1 HO4.out.2).mono ?_
  rintro e w5 ⟨he, hb⟩
  have D5 : Below w.heap.size w w5 := DE.trans (hb.mono (by omega))
  have hs5 := hb.size
  obtain ⟨k1, k2⟩ := bcl hb
  have qr0 := (k1 (w.heap.size) 0 (by first | omega | (simp; done) | (simp; omega))).trans yr0
  have fqr0 := (k2 (w.heap.size) 0 (by first | omega | (simp; done) | (simp; omega))).trans fyr0
  have qr1 := (k1 (w.heap.size) 1 (by first | omega | (simp; done) | (simp; omega))).trans yr1
  have fqr1 := (k2 (w.heap.size) 1 (by first | omega | (simp; done) | (simp; omega))).trans fyr1
  have qr2 := (k1 (w.heap.size) 2 (by first | omega | (simp; done) | (simp; omega))).trans yr2
  have fqr2 := (k2 (w.heap.size) 2 (by first | omega | (simp; done) | (simp; omega))).trans fyr2
  have qr3 := (k1 (w.heap.size) 3 (by first | omega | (simp; done) | (simp; omega))).trans yr3
  have fqr3 := (k2 (w.heap.size) 3 (by first | omega | (simp; done) | (simp; omega))).trans fyr3
  have qc0 := (k1 (CB) 0 (by first | omega | (simp; done) | (simp; omega))).trans yc0
  have qc1 := (k1 (CB) 1 (by first | omega | (simp; done) | (simp; omega))).trans yc1
  have qc2 := (k1 (CB) 2 (by first | omega | (simp; done) | (simp; omega))).trans yc2
  have qc3 := (k1 (CB) 3 (by first | omega | (simp; done) | (simp; omega))).trans yc3
  have qv0 := (k1 (XB) 0 (by first | omega | (simp; done) | (simp; omega))).trans yv0
  have qv1 := (k1 (XB) 1 (by first | omega | (simp; done) | (simp; omega))).trans yv1
  have qv2 := (k1 (XB) 2 (by first | omega | (simp; done) | (simp; omega))).trans yv2
  have qv3 := (k1 (XB) 3 (by first | omega | (simp; done) | (simp; omega))).trans yv3
  clear k1 k2
  clear hb DE yr0 fyr0 yr1 fyr1 yr2 fyr2 yr3 fyr3 yc0 yc1 yc2 yc3 yv0 yv1 yv2 yv3
  obtain ⟨r, hr⟩ : ∃ r, (subR ⟨⟨T1, T2⟩, ⟨0, 0⟩⟩ ⟨⟨v1, v2⟩, ⟨v3, v4⟩⟩) = r := ⟨_, rfl⟩
  rw [hr] at he
  have HR5 := Lib.hid hr
  clear hr
  rcases r with ⟨⟨z1, z2⟩, ⟨z3, z4⟩⟩ | k
  case' bad =>
    obtain rfl : e = .panicked [{ v := .iface 26 (.int .i64 k), recovered := false }] := he
    go_wp2_with fail
    refine ⟨rfl, ?_, by go_grown⟩
    rw [← HSP.out]; simp only [ringS, HR0.out, HR1.out, HR3.out, HR4.out, HR5.out, Out.binds, IsR]; (try rfl)
  obtain rfl : e = .returned (.agg #[.int .i64 z1, .int .i64 z2, .int .i64 z3, .int .i64 z4]) := he
  have HO5 := Lib.hid ((okR_iff _).1 (subR_ok HR5.out))
  go_upto_region 4 with fail
  have nr1 : CB < w5.heap.size := by omega
  have nr2 : XB < w5.heap.size := by omega
  have nr3 : w.heap.size < w5.heap.size := by omega
  have xr0 : (w5.alloc (Obj.cells #[.int .i64 z1, .int .i64 z2, .int .i64 z3, .int .i64 z4] 25)).cell? ⟨w.heap.size, 0, none⟩ = some (.int .i64 0) := by go_cell
  have fxr0 : (w5.alloc (Obj.cells #[.int .i64 z1, .int .i64 z2, .int .i64 z3, .int .i64 z4] 25)).frozen? ⟨w.heap.size, 0, none⟩ = false := by go_cell
  have xr1 : (w5.alloc (Obj.cells #[.int .i64 z1, .int .i64 z2, .int .i64 z3, .int .i64 z4] 25)).cell? ⟨w.heap.size, 1, none⟩ = some (.int .i64 0) := by go_cell
  have fxr1 : (w5.alloc (Obj.cells #[.int .i64 z1, .int .i64 z2, .int .i64 z3, .int .i64 z4] 25)).frozen? ⟨w.heap.size, 1, none⟩ = false := by go_cell
  have xr2 : (w5.alloc (Obj.cells #[.int .i64 z1, .int .i64 z2, .int .i64 z3, .int .i64 z4] 25)).cell? ⟨w.heap.size, 2, none⟩ = some (.int .i64 0) := by go_cell
  have fxr2 : (w5.alloc (Obj.cells #[.int .i64 z1, .int .i64 z2, .int .i64 z3, .int .i64 z4] 25)).frozen? ⟨w.heap.size, 2, none⟩ = false := by go_cell
  have xr3 : (w5.alloc (Obj.cells #[.int .i64 z1, .int .i64 z2, .int .i64 z3, .int .i64 z4] 25)).cell? ⟨w.heap.size, 3, none⟩ = some (.int .i64 0) := by go_cell
  have fxr3 : (w5.alloc (Obj.cells #[.int .i64 z1, .int .i64 z2, .int .i64 z3, .int .i64 z4] 25)).frozen? ⟨w.heap.size, 3, none⟩ = false := by go_cell
  have xc0 : (w5.alloc (Obj.cells #[.int .i64 z1, .int .i64 z2, .int .i64 z3, .int .i64 z4] 25)).cell? ⟨CB, 0, none⟩ = some (.int .i64 T1) := by go_cell
  have xc1 : (w5.alloc (Obj.cells #[.int .i64 z1, .int .i64 z2, .int .i64 z3, .int .i64 z4] 25)).cell? ⟨CB, 1, none⟩ = some (.int .i64 T2) := by go_cell
  have xc2 : (w5.alloc (Obj.cells #[.int .i64 z1, .int .i64 z2, .int .i64 z3, .int .i64 z4] 25)).cell? ⟨CB, 2, none⟩ = some (.int .i64 0) := by go_cell
  have xc3 : (w5.alloc (Obj.cells #[.int .i64 z1, .int .i64 z2, .int .i64 z3, .int .i64 z4] 25)).cell? ⟨CB, 3, none⟩ = some (.int .i64 0) := by go_cell
  have xv0 : (w5.alloc (Obj.cells #[.int .i64 z1, .int .i64 z2, .int .i64 z3, .int .i64 z4] 25)).cell? ⟨XB, 0, none⟩ = some (.int .i64 v1) := by go_cell
  have xv1 : (w5.alloc (Obj.cells #[.int .i64 z1, .int .i64 z2, .int .i64 z3, .int .i64 z4] 25)).cell? ⟨XB, 1, none⟩ = some (.int .i64 v2) := by go_cell
  have xv2 : (w5.alloc (Obj.cells #[.int .i64 z1, .int .i64 z2, .int .i64 z3, .int .i64 z4] 25)).cell? ⟨XB, 2, none⟩ = some (.int .i64 v3) := by go_cell
  have xv3 : (w5.alloc (Obj.cells #[.int .i64 z1, .int .i64 z2, .int .i64 z3, .int .i64 z4] 25)).cell? ⟨XB, 3, none⟩ = some (.int .i64 v4) := by go_cell
  have xz0 : (w5.alloc (Obj.cells #[.int .i64 z1, .int .i64 z2, .int .i64 z3, .int .i64 z4] 25)).cell? ⟨w5.heap.size, 0, none⟩ = some (.int .i64 z1) := by go_cell
  have xz1 : (w5.alloc (Obj.cells #[.int .i64 z1, .int .i64 z2, .int .i64 z3, .int .i64 z4] 25)).cell? ⟨w5.heap.size, 1, none⟩ = some (.int .i64 z2) := by go_cell
  have xz2 : (w5.alloc (Obj.cells #[.int .i64 z1, .int .i64 z2, .int .i64 z3, .int .i64 z4] 25)).cell? ⟨w5.heap.size, 2, none⟩ = some (.int .i64 z3) := by go_cell
  have xz3 : (w5.alloc (Obj.cells #[.int .i64 z1, .int .i64 z2, .int .i64 z3, .int .i64 z4] 25)).cell? ⟨w5.heap.size, 3, none⟩ = some (.int .i64 z4) := by go_cell
  have DE : Below w.heap.size w (w5.alloc (Obj.cells #[.int .i64 z1, .int .i64 z2, .int .i64 z3, .int .i64 z4] 25)) := D5.alloc (by omega) _
  have sF : w5.heap.size < (w5.alloc (Obj.cells #[.int .i64 z1, .int .i64 z2, .int .i64 z3, .int .i64 z4] 25)).heap.size := by simp
  clear qr0 fqr0 qr1 fqr1 qr2 fqr2 qr3 fqr3 qc0 qc1 qc2 qc3 qv0 qv1 qv2 qv3
  generalize (w5.alloc (Obj.cells #[.int .i64 z1, .int .i64 z2, .int .i64 z3, .int .i64 z4] 25)) = V' at *
  generalize w5.heap.size = ZB at *
  have J0 : Hid (∀ w', Below V'.heap.size V' w' → w'.cell? ⟨ZB, 0, none⟩ = some (.int .i64 z1) ∧ w'.cell? ⟨ZB, 1, none⟩ = some (.int .i64 z2) ∧ w'.cell? ⟨ZB, 2, none⟩ = some (.int .i64 z3) ∧ w'.cell? ⟨ZB, 3, none⟩ = some (.int .i64 z4) ∧ w'.cell? ⟨CB, 0, none⟩ = some (.int .i64 T1) ∧ w'.cell? ⟨CB, 1, none⟩ = some (.int .i64 T2) ∧ w'.cell? ⟨CB, 2, none⟩ = some (.int .i64 0) ∧ w'.cell? ⟨CB, 3, none⟩ = some (.int .i64 0) ∧ w'.cell? ⟨XB, 0, none⟩ = some (.int .i64 v1) ∧ w'.cell? ⟨XB, 1, none⟩ = some (.int .i64 v2) ∧ w'.cell? ⟨XB, 2, none⟩ = some (.int .i64 v3) ∧ w'.cell? ⟨XB, 3, none⟩ = some (.int .i64 v4)) := Lib.hid (fun w' hb => by
    have ez := fun o' => hb.cell (p := ⟨ZB, o', none⟩) (by simp only; omega)
    have ec := fun o' => hb.cell (p := ⟨CB, o', none⟩) (by simp only; omega)
    have ev := fun o' => hb.cell (p := ⟨XB, o', none⟩) (by simp only; omega)
    exact ⟨(ez _).trans xz0, (ez _).trans xz1, (ez _).trans xz2, (ez _).trans xz3, (ec _).trans xc0, (ec _).trans xc1, (ec _).trans xc2, (ec _).trans xc3, (ev _).trans xv0, (ev _).trans xv1, (ev _).trans xv2, (ev _).trans xv3⟩)
  have J1 : Hid (∀ w', Below V'.heap.size V' w' → w'.cell? ⟨w.heap.size, 0, none⟩ = some (.int .i64 0) ∧ w'.cell? ⟨w.heap.size, 1, none⟩ = some (.int .i64 0) ∧ w'.cell? ⟨w.heap.size, 2, none⟩ = some (.int .i64 0) ∧ w'.cell? ⟨w.heap.size, 3, none⟩ = some (.int .i64 0) ∧ w'.frozen? ⟨w.heap.size, 0, none⟩ = false ∧ w'.frozen? ⟨w.heap.size, 1, none⟩ = false ∧ w'.frozen? ⟨w.heap.size, 2, none⟩ = false ∧ w'.frozen? ⟨w.heap.size, 3, none⟩ = false) := Lib.hid (fun w' hb => by
    have er := fun o' => hb.cell (p := ⟨w.heap.size, o', none⟩) (by simp only; omega)
    have efr := fun o' => hb.frozen (p := ⟨w.heap.size, o', none⟩) (by simp only; omega)
    exact ⟨(er _).trans xr0, (er _).trans xr1, (er _).trans xr2, (er _).trans xr3, (efr _).trans fxr0, (efr _).trans fxr1, (efr _).trans fxr2, (efr _).trans fxr3⟩)
  have HD : Below V'.heap.size V' V' := Below.refl _ _
  have K0 := Lib.hid DE
  clear DE xz0 xz1 xz2 xz3 xc0 xc1 xc2 xc3 xv0 xv1 xv2 xv3 xr0 fxr0 xr1 fxr1 xr2 fxr2 xr3 fxr3
  have HD31 : Below V'.heap.size V' V'.drew := HD.drew
  refine wp_region_held_drew (S := fun w' => w'.cell? ⟨ZB, 0, none⟩ = some (.int .i64 z1) ∧ w'.cell? ⟨ZB, 1, none⟩ = some (.int .i64 z2) ∧ w'.cell? ⟨ZB, 2, none⟩ = some (.int .i64 z3) ∧ w'.cell? ⟨ZB, 3, none⟩ = some (.int .i64 z4) ∧ w'.cell? ⟨CB, 0, none⟩ = some (.int .i64 T1) ∧ w'.cell? ⟨CB, 1, none⟩ = some (.int .i64 T2) ∧ w'.cell? ⟨CB, 2, none⟩ = some (.int .i64 0) ∧ w'.cell? ⟨CB, 3, none⟩ = some (.int .i64 0) ∧ w'.cell? ⟨XB, 0, none⟩ = some (.int .i64 v1) ∧ w'.cell? ⟨XB, 1, none⟩ = some (.int .i64 v2) ∧ w'.cell? ⟨XB, 2, none⟩ = some (.int .i64 v3) ∧ w'.cell? ⟨XB, 3, none⟩ = some (.int .i64 v4)) (by kernel_rfl) (J0.out _ HD31) (fun hHeld => ?_)
  refine wpAnyH_take (i := 0) (oi := _) (v := ?_) rfl (by kernel_rfl) (by kernel_rfl) (by kernel_rfl) (fun _ _ _ h => h) (Or.inl ⟨by rfl, ?_⟩) (by assumption) ?_
  rotate_left
  · intro w hSw; obtain ⟨_, _, _, _, _, _, _, _, _, _, _, _⟩ := hSw; go_simp; (try with_reducible rfl)
  try change wpAnyH _ _ _ _ _ _ _ (Act.put _ (some 19) _) _
  try simp only [act_all]
  refine wpAnyH_take (i := 3) (oi := _) (v := ?_) rfl (by kernel_rfl) (by kernel_rfl) (by kernel_rfl) (fun _ _ _ h => h) (Or.inl ⟨by rfl, ?_⟩) (by assumption) ?_
  rotate_left
  · intro w hSw; obtain ⟨_, _, _, _, _, _, _, _, _, _, _, _⟩ := hSw; go_simp; (try with_reducible rfl)
  try change wpAnyH _ _ _ _ _ _ _ (Act.put _ (some 22) _) _
  try simp only [act_all]
  refine wpAnyH_take (i := 4) (oi := _) (v := ?_) rfl (by kernel_rfl) (by kernel_rfl) (by kernel_rfl) (fun _ _ _ h => h) (Or.inl ⟨by rfl, ?_⟩) (by assumption) ?_
  rotate_left
  · intro w hSw; obtain ⟨_, _, _, _, _, _, _, _, _, _, _, _⟩ := hSw; go_simp; (try with_reducible rfl)
  try change wpAnyH _ _ _ _ _ _ _ (Act.put _ (some 23) _) _
  try simp only [act_all]
  refine wpAnyH_ready (rs := [1]) (by kernel_rfl) (by simp) ?_
  refine AllReadyH.cons (o := _) rfl (fun K hK => ?_) AllReadyH.nil
  go_simp
  refine ((whole_any 1 _ (by omega) (by omega)).mono (fun e w' h => (by rw [show (1 : Int) * 1073741824 = 1073741824 from rfl] at h; exact h : e = retS ⟨1073741824, 1073741824⟩ ∧ Below _ _ w'))).mono ?_
  rintro e w32 ⟨he, hb⟩
  have HD32 : Below V'.heap.size V' w32 := Below.trans HD31 (hb.mono HD31.size)
  have hz32 := HD32.size
  have DA32 := K0.out.trans (HD32.mono (show w.heap.size ≤ V'.heap.size by omega))
  clear hb hHeld
  obtain rfl : e = .returned (.agg #[.int .i64 1073741824, .int .i64 1073741824]) := he
  refine hK.out _ _ (J0.out _ HD32) (fun hHeld => ?_)
  clear hK K
  try simp only [act_all]
  refine wpAnyH_ready (rs := [2]) (by kernel_rfl) (by simp) ?_
  refine AllReadyH.cons (o := _) rfl (fun K hK => ?_) AllReadyH.nil
  go_simp
  refine (onAxis_any 1073741824 1073741824 _).mono ?_
  rintro e w33 ⟨he, hb⟩
  have HD33 : Below V'.heap.size V' w33 := Below.trans HD32 (hb.mono HD32.size)
  have hz33 := HD33.size
  have DA33 := K0.out.trans (HD33.mono (show w.heap.size ≤ V'.heap.size by omega))
  clear hb hHeld
  obtain rfl : e = .returned (.agg #[.int .i64 1073741824, .int .i64 1073741824, .int .i64 0, .int .i64 0]) := he
  refine hK.out _ _ (J0.out _ HD33) (fun hHeld => ?_)
  clear hK K
  try simp only [act_all]
  refine wpAnyH_ready (rs := [5]) (by kernel_rfl) (by simp) ?_
  refine AllReadyH.cons (o := _) rfl (fun K hK => ?_) AllReadyH.nil
  go_simp
  refine (mulRect_any T1 T2 0 0 v1 v2 v3 v4 _ HO0.out h0k.out HO4.out.1 HO4.out.2).mono ?_
  rintro e w34 ⟨he, hb⟩
  have HD34 : Below V'.heap.size V' w34 := Below.trans HD33 (hb.mono HD33.size)
  have hz34 := HD34.size
  have DA34 := K0.out.trans (HD34.mono (show w.heap.size ≤ V'.heap.size by omega))
  clear hb hHeld
  obtain ⟨r, hr⟩ : ∃ r, (mulR ⟨⟨T1, T2⟩, ⟨0, 0⟩⟩ ⟨⟨v1, v2⟩, ⟨v3, v4⟩⟩) = r := ⟨_, rfl⟩
  rw [hr] at he
  have HR10 := Lib.hid hr
  clear hr
  rcases r with ⟨⟨x1, x2⟩, ⟨x3, x4⟩⟩ | k
  case' bad =>
    obtain rfl : e = .panicked [{ v := .iface 26 (.int .i64 k), recovered := false }] := he
    refine ⟨rfl, ?_, by go_grown⟩
    rw [← HSP.out]; simp only [ringS, HR0.out, HR1.out, HR3.out, HR4.out, HR5.out, HR10.out, Out.binds, IsR]; (try rfl)
  obtain rfl : e = .returned (.agg #[.int .i64 x1, .int .i64 x2, .int .i64 x3, .int .i64 x4]) := he
  have HO10 := Lib.hid ((okR_iff _).1 (mulR_ok HR10.out))
  refine hK.out _ _ (J0.out _ HD34) (fun hHeld => ?_)
  clear hK K
  try simp only [act_all]
  refine wpAnyH_ready (rs := [6]) (by kernel_rfl) (by simp) ?_
  refine AllReadyH.cons (o := _) rfl (fun K hK => ?_) AllReadyH.nil
  go_simp
  refine (subRect_any 1073741824 1073741824 0 0 x1 x2 x3 x4 _ h1k.out h0k.out HO10.out.1 HO10.out.2).mono ?_
  rintro e w35 ⟨he, hb⟩
  have HD35 : Below V'.heap.size V' w35 := Below.trans HD34 (hb.mono HD34.size)
  have hz35 := HD35.size
  have DA35 := K0.out.trans (HD35.mono (show w.heap.size ≤ V'.heap.size by omega))
  clear hb hHeld
  obtain ⟨r, hr⟩ : ∃ r, (subR ⟨⟨1073741824, 1073741824⟩, ⟨0, 0⟩⟩ ⟨⟨x1, x2⟩, ⟨x3, x4⟩⟩) = r := ⟨_, rfl⟩
  rw [hr] at he
  have HR11 := Lib.hid hr
  clear hr
  rcases r with ⟨⟨d1, d2⟩, ⟨d3, d4⟩⟩ | k
  case' bad =>
    obtain rfl : e = .panicked [{ v := .iface 26 (.int .i64 k), recovered := false }] := he
    refine ⟨rfl, ?_, by go_grown⟩
    rw [← HSP.out]; simp only [ringS, HR0.out, HR1.out, HR3.out, HR4.out, HR5.out, HR10.out, HR11.out, Out.binds, IsR]; (try rfl)
  obtain rfl : e = .returned (.agg #[.int .i64 d1, .int .i64 d2, .int .i64 d3, .int .i64 d4]) := he
  have HO11 := Lib.hid ((okR_iff _).1 (subR_ok HR11.out))
  refine hK.out _ _ (J0.out _ HD35) (fun hHeld => ?_)
  clear hK K
  try simp only [act_all]
  refine wpAnyH_ready (rs := [7]) (by kernel_rfl) (by simp) ?_
  refine AllReadyH.cons (o := _) rfl (fun K hK => ?_) AllReadyH.nil
  go_simp
  refine (divRect_any z1 z2 z3 z4 d1 d2 d3 d4 _ HO5.out.1 HO5.out.2 HO11.out.1 HO11.out.2).mono ?_
  rintro e w36 ⟨he, hb⟩
  have HD36 : Below V'.heap.size V' w36 := Below.trans HD35 (hb.mono HD35.size)
  have hz36 := HD36.size
  have DA36 := K0.out.trans (HD36.mono (show w.heap.size ≤ V'.heap.size by omega))
  clear hb hHeld
  obtain ⟨r, hr⟩ : ∃ r, (divR ⟨⟨z1, z2⟩, ⟨z3, z4⟩⟩ ⟨⟨d1, d2⟩, ⟨d3, d4⟩⟩) = r := ⟨_, rfl⟩
  rw [hr] at he
  have HR12 := Lib.hid hr
  clear hr
  rcases r with ⟨⟨p1, q1⟩, ⟨p2, q2⟩⟩ | k
  case' bad =>
    obtain rfl : e = .panicked [{ v := .iface 26 (.int .i64 k), recovered := false }] := he
    refine ⟨rfl, ?_, by go_grown⟩
    rw [← HSP.out]; simp only [ringS, HR0.out, HR1.out, HR3.out, HR4.out, HR5.out, HR10.out, HR11.out, HR12.out, Out.binds, IsR]; (try rfl)
  obtain rfl : e = .returned (.agg #[.int .i64 p1, .int .i64 q1, .int .i64 p2, .int .i64 q2]) := he
  refine hK.out _ _ (J0.out _ HD36) (fun hHeld => ?_)
  clear hK K
  try simp only [act_all]
  refine wpAnyH_ready (rs := [8]) (by kernel_rfl) (by simp) ?_
  refine AllReadyH.cons (o := _) rfl (fun K hK => ?_) AllReadyH.nil
  obtain ⟨_, _, _, _, _, _, _, _, _, _, _, _⟩ := J0.out _ HD36
  obtain ⟨_, _, _, _, _, _, _, _⟩ := J1.out _ HD36
  go_simp
  refine hK.out _ _ (by refine ⟨?_, ?_, ?_, ?_, ?_, ?_, ?_, ?_, ?_, ?_, ?_, ?_⟩ <;> go_cell) (fun hHeld => ?_)
  clear hK K
  try simp only [act_all]
  refine wpAnyH_done (by kernel_rfl) ?_ _
  go_wp2_with fail
  refine bodyPost_ret (v := .agg #[.int .i64 p1, .int .i64 q1, .int .i64 p2, .int .i64 q2]) (by simp [results, Try.results78, go_sem, *]) rfl ⟨?_, by go_grown⟩
  rw [← HSP.out]; simp only [ringS, HR0.out, HR1.out, HR3.out, HR4.out, HR5.out, HR10.out, HR11.out, HR12.out, Out.binds, IsR]; (try rfl)
end Go.Proofs.Ytilclpldfoifkaa
