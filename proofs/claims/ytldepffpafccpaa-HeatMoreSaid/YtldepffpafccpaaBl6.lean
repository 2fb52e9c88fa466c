import Derived.Test.YtldepffpafccpaaRk6
import Derived.Test.YtldepffpafccpaaHs
namespace Go.Proofs.Ytldepffpafccpaa
open Go.RowKit Heat
set_option maxRecDepth 100000 in
set_option maxHeartbeats 8000000 in
theorem HeatBanks_any (N cap : Nat) (ao : Option Addr) (A : Nat → Option Addr) (l c : Nat → Nat) (F : Nat → Nat → Int) (w : World) (hN : N ≤ 9223372036854775807) (hR : Rowsw w ao N A l c F) :
    Calls Try.prog 7 #[.agg #[.slice ao N cap]] w fun e w' => e = .returned (.bool true) ∧ Below w.heap.size w w' := by
  have HG := Lib.hid hR
  clear hR
  obtain ⟨bw, hbw⟩ : ∃ bw, wideG N l = bw := ⟨_, rfl⟩
  have HBW := Lib.hid hbw
  clear hbw
  have hbx0 : (w.alloc (Obj.cells #[.slice ao N cap] 40)).cell? ⟨w.heap.size, 0, none⟩ = some (.slice ao N cap) := by go_cell
  have hb0 : Below w.heap.size w (w.alloc (Obj.cells #[.slice ao N cap] 40)) := by go_grown
  have hs0 : w.heap.size < (w.alloc (Obj.cells #[.slice ao N cap] 40)).heap.size := by simp
  go_enter Try.func7, Try.ntmps7
  go_upto_region 1 with fail
  generalize (w.alloc (Obj.cells #[.slice ao N cap] 40)) = W at *
  have HB0 := Lib.hid hb0
  clear hb0
  go_wp2_with fail
  refine (wide_any N cap ao A l c F _ hN (HG.out.keep HB0.out)).mono ?_
  rw [HBW.out]
  rintro e w1 ⟨rfl, hb⟩
  have HB1 := Lib.hid (HB0.out.trans (hb.mono HB0.out.size))
  have hbx1 := (hb.cell (p := ⟨w.heap.size, 0, none⟩) hs0).trans hbx0
  have hs1 : w.heap.size < w1.heap.size := by have := hb.size; omega
  clear hb HB0 hbx0 hs0
  cases bw with
  | true =>
    go_wp2_with fail
    refine (sane_any _).mono ?_
    rintro e w2 ⟨rfl, hb⟩
    have D2 := HB1.out.trans (hb.mono HB1.out.size)
    clear hb
    go_wp2_with fail
    go_returns
    exact ⟨rfl, D2⟩
  | false =>
    obtain ⟨er, her⟩ : ∃ er, bankE N l F = er := ⟨_, rfl⟩
    obtain ⟨d, hd⟩ : ∃ d, domV N l F = d := ⟨_, rfl⟩
    obtain ⟨tk, htk⟩ : ∃ tk, talkV N l F = tk := ⟨_, rfl⟩
    obtain ⟨m, hm⟩ : ∃ m, (if okG N l F = true then N else 0) = m := ⟨_, rfl⟩
    obtain ⟨bk, hbk⟩ : ∃ bk, okG N l F = bk := ⟨_, rfl⟩
    have HER := Lib.hid her
    have HER2 : Hid ((if okG N l F = true then (0 : Int) else 60) = er) := Lib.hid her
    have HD := Lib.hid hd
    have HTK := Lib.hid htk
    have HM := Lib.hid hm
    have HBK := Lib.hid hbk
    have hmN : m ≤ 9223372036854775807 := by rw [← hm]; split <;> omega
    have HSB : Hid (Prm.sameB m m (fun i => sumA (F i) N) (fun i => sumA (F i) N) = true) := Lib.hid (Prm.sameB_yes fun _ _ => rfl)
    clear her hd htk hm hbk
    go_wp2_with fail
    refine (hDominant_any N cap ao A l c F _ hN (HG.out.keep HB1.out)).mono ?_
    rw [HD.out, HER.out]
    rintro e w2 ⟨rfl, hb⟩
    have HB2 := Lib.hid (HB1.out.trans (hb.mono HB1.out.size))
    have hbx2 := (hb.cell (p := ⟨w.heap.size, 0, none⟩) hs1).trans hbx1
    have hs2 : w.heap.size < w2.heap.size := by have := hb.size; omega
    clear hb HB1 hbx1 hs1
    go_wp2_with fail
    refine (rDominant_any N cap ao A l c F _ hN (HG.out.keep HB2.out)).mono ?_
    rw [HD.out, HER.out]
    rintro e w3 ⟨rfl, hb⟩
    have HB3 := Lib.hid (HB2.out.trans (hb.mono HB2.out.size))
    have hbx3 := (hb.cell (p := ⟨w.heap.size, 0, none⟩) hs2).trans hbx2
    have hs3 : w.heap.size < w3.heap.size := by have := hb.size; omega
    clear hb HB2 hbx2 hs2
    go_wp2_with fail
    refine (hTalk_any N cap ao A l c F _ hN (HG.out.keep HB3.out)).mono ?_
    rw [HTK.out, HER.out]
    rintro e w4 ⟨rfl, hb⟩
    have HB4 := Lib.hid (HB3.out.trans (hb.mono HB3.out.size))
    have hbx4 := (hb.cell (p := ⟨w.heap.size, 0, none⟩) hs3).trans hbx3
    have hs4 : w.heap.size < w4.heap.size := by have := hb.size; omega
    clear hb HB3 hbx3 hs3
    go_wp2_with fail
    refine (rTalk_any N cap ao A l c F _ hN (HG.out.keep HB4.out)).mono ?_
    rw [HTK.out, HER.out]
    rintro e w5 ⟨rfl, hb⟩
    have HB5 := Lib.hid (HB4.out.trans (hb.mono HB4.out.size))
    have hbx5 := (hb.cell (p := ⟨w.heap.size, 0, none⟩) hs4).trans hbx4
    have hs5 : w.heap.size < w5.heap.size := by have := hb.size; omega
    clear hb HB4 hbx4 hs4
    go_wp2_with fail
    refine (hBound_any N cap ao A l c F _ hN (HG.out.keep HB5.out)).mono ?_
    unfold BoundR
    rw [HM.out, HER2.out]
    rintro e w6 ⟨⟨a1, c1, rfl, hi1⟩, hb⟩
    have HB6 := Lib.hid (HB5.out.trans (hb.mono HB5.out.size))
    have hbx6 := (hb.cell (p := ⟨w.heap.size, 0, none⟩) hs5).trans hbx5
    have hs6 : w.heap.size < w6.heap.size := by have := hb.size; omega
    have HI6 := Lib.hid hi1
    clear hi1
    clear hb HB5 hbx5 hs5
    go_wp2_with fail
    refine (rBound_any N cap ao A l c F _ hN (HG.out.keep HB6.out)).mono ?_
    unfold BoundR
    rw [HM.out, HER2.out]
    rintro e w7 ⟨⟨a2, c2, rfl, hi2⟩, hb⟩
    have HB7 := Lib.hid (HB6.out.trans (hb.mono HB6.out.size))
    have hbx7 := (hb.cell (p := ⟨w.heap.size, 0, none⟩) hs6).trans hbx6
    have hs7 : w.heap.size < w7.heap.size := by have := hb.size; omega
    have HI7 := Lib.hid (HI6.out.keep hb)
    have HJ7 := Lib.hid hi2
    clear hi2 HI6
    clear hb HB6 hbx6 hs6
    have HK : Hid (∀ w', Below w7.heap.size w7 w' → w'.cell? ⟨w.heap.size, 0, none⟩ = some (.slice ao N cap)) := Lib.hid (fun w' hb => (hb.cell (p := ⟨w.heap.size, 0, none⟩) hs7).trans hbx7)
    clear hbx7
    go_upto_region 9 with fail
    refine wp_region_held_drew (S := fun w' => w'.cell? ⟨w.heap.size, 0, none⟩ = some (.slice ao N cap)) (by kernel_rfl) (HK.out _ ((Below.refl _ _).drew)) (fun hHeld => ?_)
    refine wpAnyH_take (i := 0) (oi := _) (v := ?_) rfl (by kernel_rfl) (by kernel_rfl) (by kernel_rfl) (fun _ _ _ h => h) (Or.inl ⟨by rfl, ?_⟩) (by assumption) ?_
    rotate_left
    · intro w hSw; go_simp; (try with_reducible rfl)
    try change wpAnyH _ _ _ _ _ _ _ (Act.put _ (some 48) _) _
    try simp only [act_all]
    refine wpAnyH_take (i := 2) (oi := _) (v := ?_) rfl (by kernel_rfl) (by kernel_rfl) (by kernel_rfl) (fun _ _ _ h => h) (Or.inl ⟨by rfl, ?_⟩) (by assumption) ?_
    rotate_left
    · intro w hSw; go_simp; (try with_reducible rfl)
    try change wpAnyH _ _ _ _ _ _ _ (Act.put _ (some 50) _) _
    try simp only [act_all]
    refine wpAnyH_ready (rs := [1]) (by kernel_rfl) (by simp) ?_
    refine AllReadyH.cons (o := _) rfl (fun K hK => ?_) AllReadyH.nil
    go_simp
    refine (hValid_any N cap ao A l c F _ hN (HG.out.keep HB7.out.drew)).mono ?_
    rw [HBK.out]
    rintro e v1 ⟨rfl, hb⟩
    have D1 : Below w7.heap.size w7 v1 := (Below.refl _ _).drew.trans hb
    clear hb
    refine hK.out _ _ (HK.out _ D1) (fun hHeld => ?_)
    clear hK K
    try simp only [act_all]
    refine wpAnyH_ready (rs := [3]) (by kernel_rfl) (by simp) ?_
    refine AllReadyH.cons (o := _) rfl (fun K hK => ?_) AllReadyH.nil
    go_simp
    refine (rhValid_any N cap ao A l c F _ hN (HG.out.keep (HB7.out.trans (D1.mono HB7.out.size)))).mono ?_
    rw [HBK.out]
    rintro e v2 ⟨rfl, hb⟩
    have D2 : Below w7.heap.size w7 v2 := D1.trans (hb.mono D1.size)
    clear hb
    refine hK.out _ _ (HK.out _ D2) (fun hHeld => ?_)
    clear hK K
    try simp only [act_all]
    refine wpAnyH_take (i := 4) (oi := _) (v := ?_) rfl (by kernel_rfl) (by kernel_rfl) (by kernel_rfl) (fun _ _ _ h => h) (Or.inl ⟨by rfl, ?_⟩) (by assumption) ?_
    rotate_left
    · intro w hSw; go_simp; (try with_reducible rfl)
    try change wpAnyH _ _ _ _ _ _ _ (Act.put _ (some 52) _) _
    try simp only [act_all]
    refine wpAnyH_take (i := 5) (oi := _) (v := ?_) rfl (by kernel_rfl) (by kernel_rfl) (by kernel_rfl) (fun _ _ _ h => h) (Or.inl ⟨by rfl, ?_⟩) (by assumption) ?_
    rotate_left
    · intro w hSw; go_simp; (try with_reducible rfl)
    try change wpAnyH _ _ _ _ _ _ _ (Act.put _ (some 53) _) _
    try simp only [act_all]
    refine wpAnyH_take (i := 6) (oi := _) (v := ?_) rfl (by kernel_rfl) (by kernel_rfl) (by kernel_rfl) (fun _ _ _ h => h) (Or.inl ⟨by rfl, ?_⟩) (by assumption) ?_
    rotate_left
    · intro w hSw; go_simp; (try with_reducible rfl)
    try change wpAnyH _ _ _ _ _ _ _ (Act.put _ (some 54) _) _
    try simp only [act_all]
    refine wpAnyH_take (i := 7) (oi := _) (v := ?_) rfl (by kernel_rfl) (by kernel_rfl) (by kernel_rfl) (fun _ _ _ h => h) (Or.inl ⟨by rfl, ?_⟩) (by assumption) ?_
    rotate_left
    · intro w hSw; go_simp; (try with_reducible rfl)
    try change wpAnyH _ _ _ _ _ _ _ (Act.put _ (some 55) _) _
    try simp only [act_all]
    refine wpAnyH_take (i := 8) (oi := _) (v := ?_) rfl (by kernel_rfl) (by kernel_rfl) (by kernel_rfl) (fun _ _ _ h => h) (Or.inl ⟨by rfl, ?_⟩) (by assumption) ?_
    rotate_left
    · intro w hSw; go_simp; (try with_reducible rfl)
    try change wpAnyH _ _ _ _ _ _ _ (Act.put _ (some 56) _) _
    try simp only [act_all]
    refine wpAnyH_take (i := 9) (oi := _) (v := ?_) rfl (by kernel_rfl) (by kernel_rfl) (by kernel_rfl) (fun _ _ _ h => h) (Or.inl ⟨by rfl, ?_⟩) (by assumption) ?_
    rotate_left
    · intro w hSw; go_simp; (try with_reducible rfl)
    try change wpAnyH _ _ _ _ _ _ _ (Act.put _ (some 57) _) _
    try simp only [act_all]
    refine wpAnyH_take (i := 10) (oi := _) (v := ?_) rfl (by kernel_rfl) (by kernel_rfl) (by kernel_rfl) (fun _ _ _ h => h) (Or.inl ⟨by rfl, ?_⟩) (by assumption) ?_
    rotate_left
    · intro w hSw; go_simp; (try with_reducible rfl)
    try change wpAnyH _ _ _ _ _ _ _ (Act.put _ (some 58) _) _
    try simp only [act_all]
    refine wpAnyH_take (i := 11) (oi := _) (v := ?_) rfl (by kernel_rfl) (by kernel_rfl) (by kernel_rfl) (fun _ _ _ h => h) (Or.inl ⟨by rfl, ?_⟩) (by assumption) ?_
    rotate_left
    · intro w hSw; go_simp; (try with_reducible rfl)
    try change wpAnyH _ _ _ _ _ _ _ (Act.put _ (some 59) _) _
    try simp only [act_all]
    refine wpAnyH_take (i := 12) (oi := _) (v := ?_) rfl (by kernel_rfl) (by kernel_rfl) (by kernel_rfl) (fun _ _ _ h => h) (Or.inl ⟨by rfl, ?_⟩) (by assumption) ?_
    rotate_left
    · intro w hSw; go_simp; (try with_reducible rfl)
    try change wpAnyH _ _ _ _ _ _ _ (Act.put _ (some 60) _) _
    try simp only [act_all]
    refine wpAnyH_take (i := 13) (oi := _) (v := ?_) rfl (by kernel_rfl) (by kernel_rfl) (by kernel_rfl) (fun _ _ _ h => h) (Or.inl ⟨by rfl, ?_⟩) (by assumption) ?_
    rotate_left
    · intro w hSw; go_simp; (try with_reducible rfl)
    try change wpAnyH _ _ _ _ _ _ _ (Act.put _ (some 61) _) _
    try simp only [act_all]
    refine wpAnyH_take (i := 14) (oi := _) (v := ?_) rfl (by kernel_rfl) (by kernel_rfl) (by kernel_rfl) (fun _ _ _ h => h) (Or.inl ⟨by rfl, ?_⟩) (by assumption) ?_
    rotate_left
    · intro w hSw; go_simp; (try with_reducible rfl)
    try change wpAnyH _ _ _ _ _ _ _ (Act.put _ (some 62) _) _
    try simp only [act_all]
    refine wpAnyH_take (i := 15) (oi := _) (v := ?_) rfl (by kernel_rfl) (by kernel_rfl) (by kernel_rfl) (fun _ _ _ h => h) (Or.inl ⟨by rfl, ?_⟩) (by assumption) ?_
    rotate_left
    · intro w hSw; go_simp; (try with_reducible rfl)
    try change wpAnyH _ _ _ _ _ _ _ (Act.put _ (some 63) _) _
    try simp only [act_all]
    refine wpAnyH_take (i := 16) (oi := _) (v := ?_) rfl (by kernel_rfl) (by kernel_rfl) (by kernel_rfl) (fun _ _ _ h => h) (Or.inl ⟨by rfl, ?_⟩) (by assumption) ?_
    rotate_left
    · intro w hSw; go_simp; (try with_reducible rfl)
    try change wpAnyH _ _ _ _ _ _ _ (Act.put _ (some 64) _) _
    try simp only [act_all]
    refine wpAnyH_take (i := 17) (oi := _) (v := ?_) rfl (by kernel_rfl) (by kernel_rfl) (by kernel_rfl) (fun _ _ _ h => h) (Or.inl ⟨by rfl, ?_⟩) (by assumption) ?_
    rotate_left
    · intro w hSw; go_simp; (try with_reducible rfl)
    try change wpAnyH _ _ _ _ _ _ _ (Act.put _ (some 65) _) _
    try simp only [act_all]
    refine wpAnyH_take (i := 18) (oi := _) (v := ?_) rfl (by kernel_rfl) (by kernel_rfl) (by kernel_rfl) (fun _ _ _ h => h) (Or.inl ⟨by rfl, ?_⟩) (by assumption) ?_
    rotate_left
    · intro w hSw; go_simp; (try with_reducible rfl)
    try change wpAnyH _ _ _ _ _ _ _ (Act.put _ (some 66) _) _
    try simp only [act_all]
    refine wpAnyH_take (i := 19) (oi := _) (v := ?_) rfl (by kernel_rfl) (by kernel_rfl) (by kernel_rfl) (fun _ _ _ h => h) (Or.inl ⟨by rfl, ?_⟩) (by assumption) ?_
    rotate_left
    · intro w hSw; go_simp; (try with_reducible rfl)
    try change wpAnyH _ _ _ _ _ _ _ (Act.put _ (some 67) _) _
    try simp only [act_all]
    refine wpAnyH_take (i := 20) (oi := _) (v := ?_) rfl (by kernel_rfl) (by kernel_rfl) (by kernel_rfl) (fun _ _ _ h => h) (Or.inl ⟨by rfl, ?_⟩) (by assumption) ?_
    rotate_left
    · intro w hSw; go_simp; (try with_reducible rfl)
    try change wpAnyH _ _ _ _ _ _ _ (Act.put _ (some 68) _) _
    try simp only [act_all]
    refine wpAnyH_take (i := 21) (oi := _) (v := ?_) rfl (by kernel_rfl) (by kernel_rfl) (by kernel_rfl) (fun _ _ _ h => h) (Or.inl ⟨by rfl, ?_⟩) (by assumption) ?_
    rotate_left
    · intro w hSw; go_simp; (try with_reducible rfl)
    try change wpAnyH _ _ _ _ _ _ _ (Act.put _ (some 69) _) _
    try simp only [act_all]
    refine wpAnyH_take (i := 22) (oi := _) (v := ?_) rfl (by kernel_rfl) (by kernel_rfl) (by kernel_rfl) (fun _ _ _ h => h) (Or.inl ⟨by rfl, ?_⟩) (by assumption) ?_
    rotate_left
    · intro w hSw; go_simp; (try with_reducible rfl)
    try change wpAnyH _ _ _ _ _ _ _ (Act.put _ (some 70) _) _
    try simp only [act_all]
    refine wpAnyH_take (i := 23) (oi := _) (v := ?_) rfl (by kernel_rfl) (by kernel_rfl) (by kernel_rfl) (fun _ _ _ h => h) (Or.inl ⟨by rfl, ?_⟩) (by assumption) ?_
    rotate_left
    · intro w hSw; go_simp; (try with_reducible rfl)
    try change wpAnyH _ _ _ _ _ _ _ (Act.put _ (some 71) _) _
    try simp only [act_all]
    refine wpAnyH_take (i := 24) (oi := _) (v := ?_) rfl (by kernel_rfl) (by kernel_rfl) (by kernel_rfl) (fun _ _ _ h => h) (Or.inl ⟨by rfl, ?_⟩) (by assumption) ?_
    rotate_left
    · intro w hSw; go_simp; (try with_reducible rfl)
    try change wpAnyH _ _ _ _ _ _ _ (Act.put _ (some 72) _) _
    try simp only [act_all]
    refine wpAnyH_take (i := 25) (oi := _) (v := ?_) rfl (by kernel_rfl) (by kernel_rfl) (by kernel_rfl) (fun _ _ _ h => h) (Or.inl ⟨by rfl, ?_⟩) (by assumption) ?_
    rotate_left
    · intro w hSw; go_simp; (try with_reducible rfl)
    try change wpAnyH _ _ _ _ _ _ _ (Act.put _ (some 73) _) _
    try simp only [act_all]
    refine wpAnyH_take (i := 26) (oi := _) (v := ?_) rfl (by kernel_rfl) (by kernel_rfl) (by kernel_rfl) (fun _ _ _ h => h) (Or.inl ⟨by rfl, ?_⟩) (by assumption) ?_
    rotate_left
    · intro w hSw; go_simp; (try with_reducible rfl)
    try change wpAnyH _ _ _ _ _ _ _ (Act.put _ (some 74) _) _
    try simp only [act_all]
    refine wpAnyH_take (i := 27) (oi := _) (v := ?_) rfl (by kernel_rfl) (by kernel_rfl) (by kernel_rfl) (fun _ _ _ h => h) (Or.inl ⟨by rfl, ?_⟩) (by assumption) ?_
    rotate_left
    · intro w hSw; go_simp; (try with_reducible rfl)
    try change wpAnyH _ _ _ _ _ _ _ (Act.put _ (some 75) _) _
    try simp only [act_all]
    refine wpAnyH_ready (rs := [28]) (by kernel_rfl) (by simp) ?_
    refine AllReadyH.cons (o := _) rfl (fun K hK => ?_) AllReadyH.nil
    go_simp
    refine (same_any m m c1 c2 a1 a2 (fun i => sumA (F i) N) (fun i => sumA (F i) N) _ hmN hmN (HI7.out.keep D2) (HJ7.out.keep D2)).mono ?_
    rw [HSB.out]
    rintro e v3 ⟨rfl, hb⟩
    have D3 : Below w7.heap.size w7 v3 := D2.trans (hb.mono D2.size)
    clear hb
    refine hK.out _ _ (HK.out _ D3) (fun hHeld => ?_)
    clear hK K
    try simp only [act_all]
    refine wpAnyH_take (i := 29) (oi := _) (v := ?_) rfl (by kernel_rfl) (by kernel_rfl) (by kernel_rfl) (fun _ _ _ h => h) (Or.inl ⟨by rfl, ?_⟩) (by assumption) ?_
    rotate_left
    · intro w hSw; go_simp; (try with_reducible rfl)
    try change wpAnyH _ _ _ _ _ _ _ (Act.put _ (some 77) _) _
    try simp only [act_all]
    refine wpAnyH_take (i := 30) (oi := _) (v := ?_) rfl (by kernel_rfl) (by kernel_rfl) (by kernel_rfl) (fun _ _ _ h => h) (Or.inl ⟨by rfl, ?_⟩) (by assumption) ?_
    rotate_left
    · intro w hSw; go_simp; (try with_reducible rfl)
    try change wpAnyH _ _ _ _ _ _ _ (Act.put _ (some 78) _) _
    try simp only [act_all]
    refine wpAnyH_take (i := 31) (oi := _) (v := ?_) rfl (by kernel_rfl) (by kernel_rfl) (by kernel_rfl) (fun _ _ _ h => h) (Or.inl ⟨by rfl, ?_⟩) (by assumption) ?_
    rotate_left
    · intro w hSw; go_simp; (try with_reducible rfl)
    try change wpAnyH _ _ _ _ _ _ _ (Act.put _ (some 79) _) _
    try simp only [act_all]
    refine wpAnyH_take (i := 32) (oi := _) (v := ?_) rfl (by kernel_rfl) (by kernel_rfl) (by kernel_rfl) (fun _ _ _ h => h) (Or.inl ⟨by rfl, ?_⟩) (by assumption) ?_
    rotate_left
    · intro w hSw; go_simp; (try with_reducible rfl)
    try change wpAnyH _ _ _ _ _ _ _ (Act.put _ (some 80) _) _
    try simp only [act_all]
    refine wpAnyH_take (i := 33) (oi := _) (v := ?_) rfl (by kernel_rfl) (by kernel_rfl) (by kernel_rfl) (fun _ _ _ h => h) (Or.inl ⟨by rfl, ?_⟩) (by assumption) ?_
    rotate_left
    · intro w hSw; go_simp; (try with_reducible rfl)
    try change wpAnyH _ _ _ _ _ _ _ (Act.put _ (some 81) _) _
    try simp only [act_all]
    refine wpAnyH_take (i := 34) (oi := _) (v := ?_) rfl (by kernel_rfl) (by kernel_rfl) (by kernel_rfl) (fun _ _ _ h => h) (Or.inl ⟨by rfl, ?_⟩) (by assumption) ?_
    rotate_left
    · intro w hSw; go_simp; (try with_reducible rfl)
    try change wpAnyH _ _ _ _ _ _ _ (Act.put _ (some 82) _) _
    try simp only [act_all]
    refine wpAnyH_take (i := 35) (oi := _) (v := ?_) rfl (by kernel_rfl) (by kernel_rfl) (by kernel_rfl) (fun _ _ _ h => h) (Or.inl ⟨by rfl, ?_⟩) (by assumption) ?_
    rotate_left
    · intro w hSw; go_simp; (try with_reducible rfl)
    try change wpAnyH _ _ _ _ _ _ _ (Act.put _ (some 83) _) _
    try simp only [act_all]
    refine wpAnyH_ready (rs := [36]) (by kernel_rfl) (by simp) ?_
    refine AllReadyH.cons (o := _) rfl (fun K hK => ?_) AllReadyH.nil
    go_simp
    refine (sane_any _).mono ?_
    rintro e v4 ⟨rfl, hb⟩
    have D4 : Below w7.heap.size w7 v4 := D3.trans (hb.mono D3.size)
    clear hb
    refine hK.out _ _ (HK.out _ D4) (fun hHeld => ?_)
    clear hK K
    try simp only [act_all]
    refine wpAnyH_take (i := 37) (oi := _) (v := ?_) rfl (by kernel_rfl) (by kernel_rfl) (by kernel_rfl) (fun _ _ _ h => h) (Or.inl ⟨by rfl, ?_⟩) (by assumption) ?_
    rotate_left
    · intro w hSw; go_simp; (try with_reducible rfl)
    try change wpAnyH _ _ _ _ _ _ _ (Act.put _ (some 85) _) _
    try simp only [act_all]
    refine wpAnyH_take (i := 38) (oi := _) (v := ?_) rfl (by kernel_rfl) (by kernel_rfl) (by kernel_rfl) (fun _ _ _ h => h) (Or.inl ⟨by rfl, ?_⟩) (by assumption) ?_
    rotate_left
    · intro w hSw; go_simp; (try with_reducible rfl)
    try change wpAnyH _ _ _ _ _ _ _ (Act.put _ (some 2) _) _
    try simp only [act_all]
    refine wpAnyH_done (by kernel_rfl) ?_ _
    have hbl := HB7.out.trans (D4.mono HB7.out.size)
    clear HK hHeld
    go_wp2_with fail
    go_returns
    exact ⟨rfl, hbl⟩
end Go.Proofs.Ytldepffpafccpaa
