import Derived.Test.YtldepffpafccpaaSr6
import Derived.Test.YtldepffpafccpaaEp6
namespace Go.Proofs.Ytldepffpafccpaa
open Go.RowKit Heat
theorem hSpread_any (N cap : Nat) (ao : Option Addr) (A : Nat → Option Addr) (l c : Nat → Nat) (F : Nat → Nat → Int) (m dap : Nat) (bo : Option Addr) (p : Nat → Int) (x : Int) (w : World) (hN : N ≤ 9223372036854775807) (hR : Rowsw w ao N A l c F) (hm : m ≤ 9223372036854775807) (hI : Ints w bo m p) :
    Calls Try.prog 23 #[.agg #[.slice ao N cap], .slice bo m dap, .int .i64 x] w fun e w' => e = .returned (.tuple #[.agg #[.int .i64 (spV N l F m p x).1, .int .i64 (spV N l F m p x).2], .int .i64 (spE N l F m p x)]) ∧ Below w.heap.size w w' := by
  cases hok : okG N l F with
  | false => exact hSpread_no N cap ao A l c F m dap bo p x w hN hR hok hm hI
  | true => exact hSpread_ok N cap ao A l c F m dap bo p x w hN hR hok hm hI
set_option maxRecDepth 100000 in
set_option maxHeartbeats 8000000 in
theorem HeatSpreads_any (N cap : Nat) (ao : Option Addr) (A : Nat → Option Addr) (l c : Nat → Nat) (F : Nat → Nat → Int) (m dap : Nat) (bo : Option Addr) (p : Nat → Int) (x : Int) (w : World) (hN : N ≤ 9223372036854775807) (hR : Rowsw w ao N A l c F) (hm : m ≤ 9223372036854775807) (hI : Ints w bo m p) :
    Calls Try.prog 6 #[.agg #[.slice ao N cap], .slice bo m dap, .int .i64 x] w fun e w' => e = .returned (.bool true) ∧ Below w.heap.size w w' := by
  have HG := Lib.hid hR
  have HI := Lib.hid hI
  obtain ⟨bw, hbw⟩ : ∃ bw, wideG N l = bw := ⟨_, rfl⟩
  have HBW := Lib.hid hbw
  clear hbw hR hI
  have hbx : (w.alloc (Obj.cells #[.slice ao N cap] 40)).cell? ⟨w.heap.size, 0, none⟩ = some (.slice ao N cap) := by go_cell
  have hb0 : Below w.heap.size w (w.alloc (Obj.cells #[.slice ao N cap] 40)) := by go_grown
  have hsz : w.heap.size < (w.alloc (Obj.cells #[.slice ao N cap] 40)).heap.size := by simp
  go_enter Try.func6, Try.ntmps6
  go_upto_region 1 with fail
  generalize (w.alloc (Obj.cells #[.slice ao N cap] 40)) = W at *
  have HB0 := Lib.hid hb0
  clear hb0
  go_wp2_with fail
  refine (wide_any N cap ao A l c F _ hN (HG.out.keep HB0.out)).mono ?_
  rw [HBW.out]
  rintro e w1 ⟨rfl, hb⟩
  have HB1 := Lib.hid (HB0.out.trans (hb.mono HB0.out.size))
  have hbx1 := (hb.cell (p := ⟨w.heap.size, 0, none⟩) hsz).trans hbx
  have hs1 : w.heap.size < w1.heap.size := by have := hb.size; omega
  clear hb HB0 hbx hsz
  cases bw with
  | true =>
    go_wp2_with fail
    refine (sane_any _).mono ?_
    rintro e w2 ⟨rfl, hb⟩
    have D2 := HB1.out.trans (hb.mono HB1.out.size)
    clear hb
    go_wp2_with fail
    go_returns
    exact ⟨rfl, D2⟩
  | false =>
    by_cases h20 : 20 < (m : Int)
    · go_wp2_with fail
      refine (sane_any _).mono ?_
      rintro e w2 ⟨rfl, hb⟩
      have D2 := HB1.out.trans (hb.mono HB1.out.size)
      clear hb
      go_wp2_with fail
      go_returns
      exact ⟨rfl, D2⟩
    obtain ⟨a, ha⟩ : ∃ a, (spV N l F m p x).1 = a := ⟨_, rfl⟩
    obtain ⟨b, hb'⟩ : ∃ b, (spV N l F m p x).2 = b := ⟨_, rfl⟩
    obtain ⟨er, her⟩ : ∃ er, spE N l F m p x = er := ⟨_, rfl⟩
    have HAB := Lib.hid (And.intro ha (And.intro hb' her))
    clear ha hb' her
    have heq := fun w => run_eqArr2 a b w
    go_wp2_with fail
    refine (hSpread_any N cap ao A l c F m dap bo p x _ hN (HG.out.keep HB1.out) hm (HI.out.keep HB1.out)).mono ?_
    rw [HAB.out.1, HAB.out.2.1, HAB.out.2.2]
    rintro e w2 ⟨rfl, hb⟩
    have HB2 := Lib.hid (HB1.out.trans (hb.mono HB1.out.size))
    have hbx2 := (hb.cell (p := ⟨w.heap.size, 0, none⟩) hs1).trans hbx1
    have hs2 : w.heap.size < w2.heap.size := by have := hb.size; omega
    clear hb HB1 hbx1 hs1
    have hbA : Below w2.heap.size w2 (w2.alloc (Obj.cells #[.int .i64 a, .int .i64 b] 33)) := (Below.refl _ _).alloc (Nat.le_refl _) _
    have HB3 := Lib.hid (HB2.out.trans (hbA.mono HB2.out.size))
    have hbx3 := (hbA.cell (p := ⟨w.heap.size, 0, none⟩) hs2).trans hbx2
    have c0 : (w2.alloc (Obj.cells #[.int .i64 a, .int .i64 b] 33)).cell? ⟨w2.heap.size, 0, none⟩ = some (.int .i64 a) := by go_cell
    have c1 : (w2.alloc (Obj.cells #[.int .i64 a, .int .i64 b] 33)).cell? ⟨w2.heap.size, 1, none⟩ = some (.int .i64 b) := by go_cell
    have hs3 : w2.heap.size < (w2.alloc (Obj.cells #[.int .i64 a, .int .i64 b] 33)).heap.size := by simp
    have hs3' : w.heap.size < (w2.alloc (Obj.cells #[.int .i64 a, .int .i64 b] 33)).heap.size := by omega
    clear hbA
    go_upto_region 4 with fail
    generalize (w2.alloc (Obj.cells #[.int .i64 a, .int .i64 b] 33)) = W3 at *
    generalize w2.heap.size = g at *
    go_wp2_with fail
    refine (rSpread_any N cap ao A l c F m dap bo p x _ hN (HG.out.keep HB3.out) hm (HI.out.keep HB3.out)).mono ?_
    rw [HAB.out.1, HAB.out.2.1, HAB.out.2.2]
    rintro e w4 ⟨rfl, hb⟩
    have HB4 := Lib.hid (HB3.out.trans (hb.mono HB3.out.size))
    have d0 := (hb.cell (p := ⟨g, 0, none⟩) hs3).trans c0
    have d1 := (hb.cell (p := ⟨g, 1, none⟩) hs3).trans c1
    have hs4 : g < w4.heap.size := by have := hb.size; omega
    clear hb HB3 c0 c1 hbx2 hbx3 HB2
    have hbl := HB4.out
    have hbs := hbl.size
    go_wp2_with fail
    refine (sane_any _).mono ?_
    rintro e w5 ⟨rfl, hb⟩
    have D5 : Below w.heap.size w w5 := Below.trans (by go_grown) (hb.mono (by first | omega | (simp; done) | (simp; omega)))
    clear hb
    go_wp2_with fail
    go_returns
    exact ⟨rfl, D5⟩
end Go.Proofs.Ytldepffpafccpaa
