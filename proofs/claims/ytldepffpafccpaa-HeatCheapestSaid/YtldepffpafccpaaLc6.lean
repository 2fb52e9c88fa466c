import Derived.Test.YtldepffpafccpaaRc6
import Derived.Test.YtldepffpafccpaaBl6
namespace Go.Proofs.Ytldepffpafccpaa
open Go.RowKit Heat
set_option maxRecDepth 100000 in
set_option maxHeartbeats 8000000 in
theorem HeatCheapest_any (N cap : Nat) (ao : Option Addr) (A : Nat → Option Addr) (l c : Nat → Nat) (F : Nat → Nat → Int) (m dap : Nat) (bo : Option Addr) (B : Nat → Int) (s top : Int) (w : World) (hN : N ≤ 9223372036854775807) (hR : Rowsw w ao N A l c F) (hm : m ≤ 9223372036854775807) (hI : Ints w bo m B) :
    Calls Try.prog 13 #[.agg #[.slice ao N cap], .slice bo m dap, .agg #[.int .i64 s, .int .i64 top]] w fun e w' => e = .returned (.bool true) ∧ Below w.heap.size w w' := by
  have HG := Lib.hid hR
  have HI := Lib.hid hI
  clear hR hI
  obtain ⟨bw, hbw⟩ : ∃ bw, wideG N l = bw := ⟨_, rfl⟩
  have HBW := Lib.hid hbw
  clear hbw
  have bx0_0 : ((w.alloc (Obj.cells #[.slice ao N cap] 40)).alloc (Obj.cells #[.int .i64 s, .int .i64 top] 33)).cell? ⟨w.heap.size, 0, none⟩ = some (.slice ao N cap) := by go_cell
  have bx1_0 : ((w.alloc (Obj.cells #[.slice ao N cap] 40)).alloc (Obj.cells #[.int .i64 s, .int .i64 top] 33)).cell? ⟨w.heap.size + 1, 0, none⟩ = some (.int .i64 s) := by go_cell
  have bx2_0 : ((w.alloc (Obj.cells #[.slice ao N cap] 40)).alloc (Obj.cells #[.int .i64 s, .int .i64 top] 33)).cell? ⟨w.heap.size + 1, 1, none⟩ = some (.int .i64 top) := by go_cell
  have hb0 : Below w.heap.size w ((w.alloc (Obj.cells #[.slice ao N cap] 40)).alloc (Obj.cells #[.int .i64 s, .int .i64 top] 33)) := by go_grown
  have hs0 : w.heap.size + 1 < ((w.alloc (Obj.cells #[.slice ao N cap] 40)).alloc (Obj.cells #[.int .i64 s, .int .i64 top] 33)).heap.size := by simp
  go_enter Try.func13, Try.ntmps13
  go_upto_region 1 with fail
  generalize ((w.alloc (Obj.cells #[.slice ao N cap] 40)).alloc (Obj.cells #[.int .i64 s, .int .i64 top] 33)) = W at *
  have HB0 := Lib.hid hb0
  clear hb0
  go_wp2_with fail
  refine (wide_any N cap ao A l c F _ hN (HG.out.keep HB0.out)).mono ?_
  rw [HBW.out]
  rintro e w1 ⟨rfl, hb⟩
  have HB1 := Lib.hid (HB0.out.trans (hb.mono HB0.out.size))
  have bx0_1 := (hb.cell (p := ⟨w.heap.size, 0, none⟩) (by simp only; omega)).trans bx0_0
  have bx1_1 := (hb.cell (p := ⟨w.heap.size + 1, 0, none⟩) (by simp only; omega)).trans bx1_0
  have bx2_1 := (hb.cell (p := ⟨w.heap.size + 1, 1, none⟩) (by simp only; omega)).trans bx2_0
  have hs1 : w.heap.size + 1 < w1.heap.size := by have := hb.size; omega
  clear hb HB0 hs0 bx0_0 bx1_0 bx2_0
  cases bw with
  | true =>
    go_wp2_with fail
    refine (sane_any _).mono ?_
    rintro e w9 ⟨rfl, hb⟩
    have D9 := HB1.out.trans (hb.mono HB1.out.size)
    clear hb
    go_wp2_with fail
    go_returns
    exact ⟨rfl, D9⟩
  | false =>
  by_cases hm20 : 20 < (m : Int)
  ·
    go_wp2_with fail
    refine (sane_any _).mono ?_
    rintro e w9 ⟨rfl, hb⟩
    have D9 := HB1.out.trans (hb.mono HB1.out.size)
    clear hb
    go_wp2_with fail
    go_returns
    exact ⟨rfl, D9⟩
  obtain ⟨er, her⟩ : ∃ er, chE N l F m B s top = er := ⟨_, rfl⟩
  obtain ⟨q, hq⟩ : ∃ q, (if chE N l F m B s top = 0 then N else 0) = q := ⟨_, rfl⟩
  have hqN : q ≤ 9223372036854775807 := by rw [← hq]; split <;> omega
  rw [her] at hq
  have HER := Lib.hid her
  have HQ := Lib.hid hq
  clear her hq
  obtain ⟨f, hf⟩ : ∃ f, opL (chP N F B s top) = f := ⟨_, rfl⟩
  have HF := Lib.hid hf
  have HSF : Hid (Prm.sameB q q f f = true) := Lib.hid (Prm.sameB_yes fun _ _ => rfl)
  have hee : (er == er) = true := by simp
  clear hf
  go_wp2_with fail
  refine (hCheapest_any N cap ao A l c F m dap bo B s top _ hN (HG.out.keep HB1.out) hm (HI.out.keep HB1.out)).mono ?_
  unfold ChR
  rw [HER.out, HQ.out, HF.out]
  rintro e w2 ⟨⟨a2, c2, rfl, hi2⟩, hb⟩
  have HB2 := Lib.hid (HB1.out.trans (hb.mono HB1.out.size))
  have bx0_2 := (hb.cell (p := ⟨w.heap.size, 0, none⟩) (by simp only; omega)).trans bx0_1
  have bx1_2 := (hb.cell (p := ⟨w.heap.size + 1, 0, none⟩) (by simp only; omega)).trans bx1_1
  have bx2_2 := (hb.cell (p := ⟨w.heap.size + 1, 1, none⟩) (by simp only; omega)).trans bx2_1
  have hs2 : w.heap.size + 1 < w2.heap.size := by have := hb.size; omega
  have HI2_2 := Lib.hid hi2
  clear hi2 
  clear hb HB1 hs1 bx0_1 bx1_1 bx2_1
  go_wp2_with fail
  refine (rCheapest_any N cap ao A l c F m dap bo B s top _ hN (HG.out.keep HB2.out) hm (HI.out.keep HB2.out)).mono ?_
  unfold ChR
  rw [HER.out, HQ.out, HF.out]
  rintro e w3 ⟨⟨a3, c3, rfl, hi3⟩, hb⟩
  have HB3 := Lib.hid (HB2.out.trans (hb.mono HB2.out.size))
  have bx0_3 := (hb.cell (p := ⟨w.heap.size, 0, none⟩) (by simp only; omega)).trans bx0_2
  have bx1_3 := (hb.cell (p := ⟨w.heap.size + 1, 0, none⟩) (by simp only; omega)).trans bx1_2
  have bx2_3 := (hb.cell (p := ⟨w.heap.size + 1, 1, none⟩) (by simp only; omega)).trans bx2_2
  have hs3 : w.heap.size + 1 < w3.heap.size := by have := hb.size; omega
  have HI2_3 := Lib.hid (HI2_2.out.keep hb)
  have HI3_3 := Lib.hid hi3
  clear hi3 HI2_2
  clear hb HB2 hs2 bx0_2 bx1_2 bx2_2
  go_wp2_with fail
  refine (same_any q q c2 c3 a2 a3 f f _ hqN hqN HI2_3.out HI3_3.out).mono ?_
  rw [HSF.out]
  rintro e w6 ⟨rfl, hb⟩
  have HB6 := Lib.hid (HB3.out.trans (hb.mono HB3.out.size))
  clear hb HI2_3 HI3_3 HB3 bx0_3 bx1_3 bx2_3
  go_wp2_with fail
  refine (sane_any _).mono ?_
  rintro e w9 ⟨rfl, hb⟩
  have D9 := HB6.out.trans (hb.mono HB6.out.size)
  clear hb
  go_wp2_with fail
  go_returns
  exact ⟨rfl, D9⟩
end Go.Proofs.Ytldepffpafccpaa
