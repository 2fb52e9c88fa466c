import Derived.Test.YtldepffpafccpaaRq6
import Derived.Test.YtldepffpafccpaaBl6
namespace Go.Proofs.Ytldepffpafccpaa
open Go.RowKit Heat
set_option maxRecDepth 100000 in
set_option maxHeartbeats 8000000 in
theorem HeatPhases_any (N cap : Nat) (ao : Option Addr) (A : Nat → Option Addr) (l c : Nat → Nat) (F : Nat → Nat → Int) (bo : Option Addr) (m dap : Nat) (B : Nat → Int) (co : Option Addr) (k fap : Nat) (C : Nat → Int) (w : World) (hN : N ≤ 9223372036854775807) (hR : Rowsw w ao N A l c F) (hm : m ≤ 9223372036854775807) (hI : Ints w bo m B) (hk : k ≤ 9223372036854775807) (hJ : Ints w co k C) :
    Calls Try.prog 8 #[.agg #[.slice ao N cap, .slice bo m dap, .slice co k fap]] w fun e w' => e = .returned (.bool true) ∧ Below w.heap.size w w' := by
  have HG := Lib.hid hR
  have HI := Lib.hid hI
  have HJ := Lib.hid hJ
  clear hR hI hJ
  obtain ⟨bw, hbw⟩ : ∃ bw, wideG N l = bw := ⟨_, rfl⟩
  have HBW := Lib.hid hbw
  clear hbw
  have bx0_0 : (w.alloc (Obj.cells #[.slice ao N cap, .slice bo m dap, .slice co k fap] 50)).cell? ⟨w.heap.size, 0, none⟩ = some (.slice ao N cap) := by go_cell
  have bx1_0 : (w.alloc (Obj.cells #[.slice ao N cap, .slice bo m dap, .slice co k fap] 50)).cell? ⟨w.heap.size, 1, none⟩ = some (.slice bo m dap) := by go_cell
  have bx2_0 : (w.alloc (Obj.cells #[.slice ao N cap, .slice bo m dap, .slice co k fap] 50)).cell? ⟨w.heap.size, 2, none⟩ = some (.slice co k fap) := by go_cell
  have hb0 : Below w.heap.size w (w.alloc (Obj.cells #[.slice ao N cap, .slice bo m dap, .slice co k fap] 50)) := by go_grown
  have hs0 : w.heap.size < (w.alloc (Obj.cells #[.slice ao N cap, .slice bo m dap, .slice co k fap] 50)).heap.size := by simp
  go_enter Try.func8, Try.ntmps8
  go_upto_region 1 with fail
  generalize (w.alloc (Obj.cells #[.slice ao N cap, .slice bo m dap, .slice co k fap] 50)) = W at *
  have HB0 := Lib.hid hb0
  clear hb0
  go_wp2_with fail
  refine (wide_any N cap ao A l c F _ hN (HG.out.keep HB0.out)).mono ?_
  rw [HBW.out]
  rintro e w1 ⟨rfl, hb⟩
  have HB1 := Lib.hid (HB0.out.trans (hb.mono HB0.out.size))
  have bx0_1 := (hb.cell (p := ⟨w.heap.size, 0, none⟩) hs0).trans bx0_0
  have bx1_1 := (hb.cell (p := ⟨w.heap.size, 1, none⟩) hs0).trans bx1_0
  have bx2_1 := (hb.cell (p := ⟨w.heap.size, 2, none⟩) hs0).trans bx2_0
  have hs1 : w.heap.size < w1.heap.size := by have := hb.size; omega
  clear hb HB0 hs0 bx0_0 bx1_0 bx2_0
  cases bw with
  | true =>
    go_wp2_with fail
    refine (sane_any _).mono ?_
    rintro e w9 ⟨rfl, hb⟩
    have D9 := HB1.out.trans (hb.mono HB1.out.size)
    clear hb
    go_wp2_with fail
    go_returns
    exact ⟨rfl, D9⟩
  | false =>
  by_cases hm20 : 20 < (m : Int)
  ·
    go_wp2_with fail
    refine (sane_any _).mono ?_
    rintro e w9 ⟨rfl, hb⟩
    have D9 := HB1.out.trans (hb.mono HB1.out.size)
    clear hb
    go_wp2_with fail
    go_returns
    exact ⟨rfl, D9⟩
  by_cases hk20 : 20 < (k : Int)
  ·
    go_wp2_with fail
    refine (sane_any _).mono ?_
    rintro e w9 ⟨rfl, hb⟩
    have D9 := HB1.out.trans (hb.mono HB1.out.size)
    clear hb
    go_wp2_with fail
    go_returns
    exact ⟨rfl, D9⟩
  obtain ⟨er, her⟩ : ∃ er, lsE N l F m B k C = er := ⟨_, rfl⟩
  obtain ⟨q, hq⟩ : ∃ q, (if lsE N l F m B k C = 0 then N else 0) = q := ⟨_, rfl⟩
  have hqN : q ≤ 9223372036854775807 := by rw [← hq]; split <;> omega
  rw [her] at hq
  have HER := Lib.hid her
  have HQ := Lib.hid hq
  clear her hq
  obtain ⟨f, hf⟩ : ∃ f, phL N F B C = f := ⟨_, rfl⟩
  obtain ⟨h, hh⟩ : ∃ h, ofL N F B C = h := ⟨_, rfl⟩
  have HF := Lib.hid hf
  have HH := Lib.hid hh
  have HSF : Hid (Prm.sameB q q f f = true) := Lib.hid (Prm.sameB_yes fun _ _ => rfl)
  have HSH : Hid (Prm.sameB q q h h = true) := Lib.hid (Prm.sameB_yes fun _ _ => rfl)
  have hee : (er == er) = true := by simp
  clear hf hh
  go_wp2_with fail
  refine (hPhases_any N cap ao A l c F m dap bo B k fap co C _ hN (HG.out.keep HB1.out) hm (HI.out.keep HB1.out) hk (HJ.out.keep HB1.out)).mono ?_
  unfold LsR
  rw [HER.out, HQ.out, HF.out]
  rintro e w2 ⟨⟨a2, c2, rfl, hi2⟩, hb⟩
  have HB2 := Lib.hid (HB1.out.trans (hb.mono HB1.out.size))
  have bx0_2 := (hb.cell (p := ⟨w.heap.size, 0, none⟩) hs1).trans bx0_1
  have bx1_2 := (hb.cell (p := ⟨w.heap.size, 1, none⟩) hs1).trans bx1_1
  have bx2_2 := (hb.cell (p := ⟨w.heap.size, 2, none⟩) hs1).trans bx2_1
  have hs2 : w.heap.size < w2.heap.size := by have := hb.size; omega
  have HI2_2 := Lib.hid hi2
  clear hi2 
  clear hb HB1 hs1 bx0_1 bx1_1 bx2_1
  go_wp2_with fail
  refine (rPhases_any N cap ao A l c F m dap bo B k fap co C _ hN (HG.out.keep HB2.out) hm (HI.out.keep HB2.out) hk (HJ.out.keep HB2.out)).mono ?_
  unfold LsR
  rw [HER.out, HQ.out, HF.out]
  rintro e w3 ⟨⟨a3, c3, rfl, hi3⟩, hb⟩
  have HB3 := Lib.hid (HB2.out.trans (hb.mono HB2.out.size))
  have bx0_3 := (hb.cell (p := ⟨w.heap.size, 0, none⟩) hs2).trans bx0_2
  have bx1_3 := (hb.cell (p := ⟨w.heap.size, 1, none⟩) hs2).trans bx1_2
  have bx2_3 := (hb.cell (p := ⟨w.heap.size, 2, none⟩) hs2).trans bx2_2
  have hs3 : w.heap.size < w3.heap.size := by have := hb.size; omega
  have HI2_3 := Lib.hid (HI2_2.out.keep hb)
  have HI3_3 := Lib.hid hi3
  clear hi3 HI2_2
  clear hb HB2 hs2 bx0_2 bx1_2 bx2_2
  go_wp2_with fail
  refine (hOff_any N cap ao A l c F m dap bo B k fap co C _ hN (HG.out.keep HB3.out) hm (HI.out.keep HB3.out) hk (HJ.out.keep HB3.out)).mono ?_
  unfold LsR
  rw [HER.out, HQ.out, HH.out]
  rintro e w4 ⟨⟨a4, c4, rfl, hi4⟩, hb⟩
  have HB4 := Lib.hid (HB3.out.trans (hb.mono HB3.out.size))
  have bx0_4 := (hb.cell (p := ⟨w.heap.size, 0, none⟩) hs3).trans bx0_3
  have bx1_4 := (hb.cell (p := ⟨w.heap.size, 1, none⟩) hs3).trans bx1_3
  have bx2_4 := (hb.cell (p := ⟨w.heap.size, 2, none⟩) hs3).trans bx2_3
  have hs4 : w.heap.size < w4.heap.size := by have := hb.size; omega
  have HI2_4 := Lib.hid (HI2_3.out.keep hb)
  have HI3_4 := Lib.hid (HI3_3.out.keep hb)
  have HI4_4 := Lib.hid hi4
  clear hi4 HI2_3 HI3_3
  clear hb HB3 hs3 bx0_3 bx1_3 bx2_3
  go_wp2_with fail
  refine (rOff_any N cap ao A l c F m dap bo B k fap co C _ hN (HG.out.keep HB4.out) hm (HI.out.keep HB4.out) hk (HJ.out.keep HB4.out)).mono ?_
  unfold LsR
  rw [HER.out, HQ.out, HH.out]
  rintro e w5 ⟨⟨a5, c5, rfl, hi5⟩, hb⟩
  have HB5 := Lib.hid (HB4.out.trans (hb.mono HB4.out.size))
  have bx0_5 := (hb.cell (p := ⟨w.heap.size, 0, none⟩) hs4).trans bx0_4
  have bx1_5 := (hb.cell (p := ⟨w.heap.size, 1, none⟩) hs4).trans bx1_4
  have bx2_5 := (hb.cell (p := ⟨w.heap.size, 2, none⟩) hs4).trans bx2_4
  have hs5 : w.heap.size < w5.heap.size := by have := hb.size; omega
  have HI2_5 := Lib.hid (HI2_4.out.keep hb)
  have HI3_5 := Lib.hid (HI3_4.out.keep hb)
  have HI4_5 := Lib.hid (HI4_4.out.keep hb)
  have HI5_5 := Lib.hid hi5
  clear hi5 HI2_4 HI3_4 HI4_4
  clear hb HB4 hs4 bx0_4 bx1_4 bx2_4
  go_wp2_with fail
  refine (same_any q q c2 c3 a2 a3 f f _ hqN hqN HI2_5.out HI3_5.out).mono ?_
  rw [HSF.out]
  rintro e w6 ⟨rfl, hb⟩
  have HB6 := Lib.hid (HB5.out.trans (hb.mono HB5.out.size))
  have HI4_6 := Lib.hid (HI4_5.out.keep hb)
  have HI5_6 := Lib.hid (HI5_5.out.keep hb)
  clear hb HI2_5 HI3_5 HI4_5 HI5_5 HB5 bx0_5 bx1_5 bx2_5
  go_wp2_with fail
  refine (same_any q q c4 c5 a4 a5 h h _ hqN hqN HI4_6.out HI5_6.out).mono ?_
  rw [HSH.out]
  rintro e w7 ⟨rfl, hb⟩
  have HB7 := Lib.hid (HB6.out.trans (hb.mono HB6.out.size))
  clear hb HI4_6 HI5_6 HB6
  go_wp2_with fail
  refine (sane_any _).mono ?_
  rintro e w9 ⟨rfl, hb⟩
  have D9 := HB7.out.trans (hb.mono HB7.out.size)
  clear hb
  go_wp2_with fail
  go_returns
  exact ⟨rfl, D9⟩
end Go.Proofs.Ytldepffpafccpaa
