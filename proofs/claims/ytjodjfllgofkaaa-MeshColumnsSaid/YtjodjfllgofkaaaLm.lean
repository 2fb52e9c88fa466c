import Derived.Test.YtjodjfllgofkaaaRn
import Derived.Test.YtjodjfllgofkaaaSi
import Derived.Test.YtjodjfllgofkaaaAk
import Derived.Test.YtjodjfllgofkaaaOi
namespace Go.Proofs.Ytjodjfllgofkaaa
open Go.RowKit Go.ChangeShapes Prm Amp
theorem run_eqArr4 (a0 a1 a2 a3 : Int) (w : World) :
    (binOp .eql 39 (.agg #[.int .i64 a0, .int .i64 a1, .int .i64 a2, .int .i64 a3]) (.agg #[.int .i64 a0, .int .i64 a1, .int .i64 a2, .int .i64 a3])).run Try.prog w = .ok (.bool true) w := by
  have h : (Op.equalIn 10000 39 (.agg #[.int .i64 a0, .int .i64 a1, .int .i64 a2, .int .i64 a3]) (.agg #[.int .i64 a0, .int .i64 a1, .int .i64 a2, .int .i64 a3])).run Try.prog w = .ok (a0 == a0 && (a1 == a1 && (a2 == a2 && a3 == a3))) w :=
    run_equalIn_arr4 w 9998 a0 a1 a2 a3 a0 a1 a2 a3 Try.underlying39 Try.underlying3 (fun w => by kernel_rfl)
  simp only [binOp]
  simp [Op.equal, Op.maxDepth, h]
set_option maxRecDepth 100000 in
/-- A list of items as an argument, with its capacity. -/
theorem open_items_cap {H : Type} {enc : TypeId × Value → H} {w : World} {r : Reach} {base b0 : Nat} {spare : Nat → Bool} {held : Bool} {v : Value} {d : DataW H} {p : List MemPlace}
    (hv : Value.okWide Try.prog w r b0 22 v) (h : DataW.Trod enc Try.prog w base spare held 22 v d p) :
    ∃ (ao : Option Addr) (n cap : Nat) (f : Nat → It), v = .slice ao n cap ∧ n ≤ 9223372036854775807 ∧ n ≤ cap ∧ Its w ao n f := by
  obtain ⟨ao, n, cap, f, rfl, hn, hi⟩ := open_items hv h
  refine ⟨ao, n, cap, f, rfl, hn, ?_, hi⟩
  obtain ⟨fuel, hf⟩ := h
  rcases Go.Deep.open_slice Try.underlying22 (show DataW.trod enc Try.prog w base spare held fuel 22 [.slice ao n cap] = some (d, p) from hf) with ⟨h0, _⟩ | ⟨a, len', cap', m, k, D, Pl, hcs, _, hl, _⟩
  · simp only [List.cons.injEq, Value.slice.injEq, and_true] at h0
    rw [h0.2.1]; exact Nat.zero_le _
  · simp only [List.cons.injEq, Value.slice.injEq, and_true] at hcs
    obtain ⟨_, rfl, rfl⟩ := hcs
    exact hl

def colL (er : Int) (n : Nat) : Nat := if er = 0 then n else 0
theorem colL_le (er : Int) (n : Nat) : colL er n ≤ n := by unfold colL; split <;> omega
/-- Columns as a result, error and all. -/
def ColIs (w : World) (e : Ending) (L : Nat) (F : Nat → Int) (er : Int) : Prop := ∃ ao cap, e = .returned (.tuple #[.slice ao L cap, .int .i64 er]) ∧ Ints w ao L F
theorem col_own {w : World} {B len : Nat} {lv : Value} {F : Nat → Int} (h : w.ownsRow B 3 1 lv len (cellsI F len)) : ∃ ao cap, lv = .slice ao len cap ∧ Ints w ao len F := by
  by_cases h0 : 0 < len
  · obtain ⟨g, cap, rfl, _⟩ := own_fm h h0
    exact ⟨_, cap, rfl, (Intw.of_own h fun i hi => cellsI_get _ hi).ints⟩
  · rcases h.2 with ⟨rfl, e⟩ | ⟨g, cap, cur, rfl, _⟩
    · exact ⟨none, 0, by rw [e], fun h => absurd h h0⟩
    · exact ⟨_, cap, rfl, fun h => absurd h h0⟩
theorem columns_any (N : Int) (len cap : Nat) (ao : Option Addr) (f : Nat → It) (w : World) (hlen : len ≤ 9223372036854775807) (hc : Its w ao len f) :
    Calls Try.prog 18 #[.int .i64 N, .slice ao len cap] w fun e w' => ColIs w' e (colL (askS N len f) len) (colF f) (askS N len f) ∧ Below w.heap.size w w' := by
  by_cases ha : askS N len f = 0
  · refine (columns_ok N len cap ao f w hc ha).mono ?_
    rintro e w' ⟨⟨lv, rfl, ho⟩, hb⟩
    obtain ⟨a, c, rfl, hi⟩ := col_own ho
    rw [ha]
    exact ⟨⟨a, c, rfl, hi⟩, hb⟩
  · refine (columns_no N len cap ao f w hlen hc ha).mono ?_
    rintro e w' ⟨rfl, hb⟩
    have e0 : colL (askS N len f) len = 0 := if_neg ha
    rw [e0]
    exact ⟨⟨none, 0, rfl, fun h => absurd h (by omega)⟩, hb⟩
theorem rColumns_any (N : Int) (len cap : Nat) (ao : Option Addr) (f : Nat → It) (w : World) (hlen : len ≤ 9223372036854775807) (hlc : len ≤ cap) (hc : Its w ao len f) :
    Calls Try.prog 19 #[.int .i64 N, .slice ao len cap] w fun e w' => ColIs w' e (colL (askS N len f) len) (colF f) (askS N len f) ∧ Below w.heap.size w w' := by
  by_cases ha : askS N len f = 0
  · refine (rColumns_ok N len cap ao f w hlc hc ha).mono ?_
    rintro e w' ⟨⟨lv, rfl, ho⟩, hb⟩
    obtain ⟨a, c, rfl, hi⟩ := col_own ho
    rw [ha]
    exact ⟨⟨a, c, rfl, hi⟩, hb⟩
  · refine (rColumns_no N len cap ao f w hlen hc ha).mono ?_
    rintro e w' ⟨rfl, hb⟩
    have e0 : colL (askS N len f) len = 0 := if_neg ha
    rw [e0]
    exact ⟨⟨none, 0, rfl, fun h => absurd h (by omega)⟩, hb⟩
/-- The counts as a result: zeros beside an error. -/
def cntV (N : Int) (len : Nat) (f : Nat → It) (j : Nat) : Int := if askS N len f = 0 then cntF f len j else 0
theorem count_any (N : Int) (len cap : Nat) (ao : Option Addr) (f : Nat → It) (w : World) (hlen : len ≤ 9223372036854775807) (hc : Its w ao len f) :
    Calls Try.prog 20 #[.int .i64 N, .slice ao len cap] w fun e w' => e = .returned (.tuple #[.agg #[.int .i64 (cntV N len f 0), .int .i64 (cntV N len f 1), .int .i64 (cntV N len f 2), .int .i64 (cntV N len f 3)], .int .i64 (askS N len f)]) ∧ Below w.heap.size w w' := by
  by_cases ha : askS N len f = 0
  · simp only [cntV, if_pos ha]
    rw [ha]
    exact count_ok N len cap ao f w hc ha
  · simp only [cntV, if_neg ha]
    exact count_no N len cap ao f w hlen hc ha
theorem rCount_any (N : Int) (len cap : Nat) (ao : Option Addr) (f : Nat → It) (w : World) (hlen : len ≤ 9223372036854775807) (hlc : len ≤ cap) (hc : Its w ao len f) :
    Calls Try.prog 21 #[.int .i64 N, .slice ao len cap] w fun e w' => e = .returned (.tuple #[.agg #[.int .i64 (cntV N len f 0), .int .i64 (cntV N len f 1), .int .i64 (cntV N len f 2), .int .i64 (cntV N len f 3)], .int .i64 (askS N len f)]) ∧ Below w.heap.size w w' := by
  by_cases ha : askS N len f = 0
  · simp only [cntV, if_pos ha]
    rw [ha]
    exact rCount_ok N len cap ao f w hlc hc ha
  · simp only [cntV, if_neg ha]
    exact rCount_no N len cap ao f w hlen hc ha

set_option maxRecDepth 100000 in
set_option maxHeartbeats 4000000 in
theorem MeshColumns_any (N : Int) (len cap : Nat) (ao : Option Addr) (f : Nat → It) (w : World) (hlen : len ≤ 9223372036854775807) (hlc : len ≤ cap) (hc : Its w ao len f) :
    Calls Try.prog 4 #[.int .i64 N, .slice ao len cap] w fun e w' => e = .returned (.bool true) ∧ Below w.heap.size w w' := by
  have HC := Lib.hid hc
  have HLC := Lib.hid hlc
  clear hc hlc
  by_cases h300 : 300 < len
  · have h300' : 300 < (len : Int) := by omega
    clear h300
    go_enter Try.func4, Try.ntmps4
    go_wp2_with fail
    refine (mawake_any _).mono ?_
    rintro e w1 ⟨rfl, hb⟩
    go_wp2_with fail
    go_returns
    exact ⟨rfl, hb⟩
  have h300' : (len : Int) ≤ 300 := by omega
  obtain ⟨er, her⟩ : ∃ er, askS N len f = er := ⟨_, rfl⟩
  obtain ⟨L, hL⟩ : ∃ L, colL er len = L := ⟨_, rfl⟩
  obtain ⟨x, hx⟩ : ∃ x, cntV N len f = x := ⟨_, rfl⟩
  have HE := Lib.hid her
  have HL := Lib.hid hL
  have HX := Lib.hid hx
  have HLn : Hid (L ≤ 9223372036854775807) := Lib.hid (by have := colL_le er len; omega)
  have heq := fun w => run_eqArr4 (x 0) (x 1) (x 2) (x 3) w
  have HEQ := Lib.hid heq
  clear h300 her hL hx heq
  go_enter Try.func4, Try.ntmps4
  go_wp2_with fail
  refine (columns_any N len cap ao f _ hlen HC.out).mono ?_
  rw [HE.out, HL.out]
  rintro e w1 ⟨⟨a1, c1, rfl, hi1⟩, hb⟩
  have HA := Lib.hid hi1
  have D1 := Lib.hid hb
  clear hb hi1
  go_wp2_with fail
  refine (rColumns_any N len cap ao f _ hlen HLC.out (HC.out.keep D1.out)).mono ?_
  rw [HE.out, HL.out]
  rintro e w2 ⟨⟨a2, c2, rfl, hi2⟩, hb⟩
  have HA2 := Lib.hid (HA.out.keep hb)
  have HB2 := Lib.hid hi2
  have D2 := Lib.hid (D1.out.trans (hb.mono D1.out.size))
  clear hb hi2 HA D1
  go_wp2_with fail
  refine (count_any N len cap ao f _ hlen (HC.out.keep D2.out)).mono ?_
  rw [HE.out, HX.out]
  rintro e w3 ⟨rfl, hb⟩
  have HA3 := Lib.hid (HA2.out.keep hb)
  have HB3 := Lib.hid (HB2.out.keep hb)
  have D3 := Lib.hid (D2.out.trans (hb.mono D2.out.size))
  clear hb HA2 HB2 D2
  go_wp2_with fail
  have D4 := Lib.hid (D3.out.alloc D3.out.size (.cells #[.int .i64 (x 0), .int .i64 (x 1), .int .i64 (x 2), .int .i64 (x 3)] 39))
  refine (rCount_any N len cap ao f _ hlen HLC.out (HC.out.keep D4.out)).mono ?_
  rw [HE.out, HX.out]
  rintro e w5 ⟨rfl, hb⟩
  have hb0 : Below w3.heap.size w3 w5 := ((Below.refl _ w3).alloc (Nat.le_refl _) _).trans (hb.mono (by simp))
  have HA5 := Lib.hid (HA3.out.keep hb0)
  have HB5 := Lib.hid (HB3.out.keep hb0)
  have D5 := Lib.hid (D3.out.trans (hb0.mono D3.out.size))
  have e0 := fun j => hb.cell (p := ⟨w3.heap.size, j, none⟩) (by simp)
  have r0 := (e0 0).trans (by go_cell : _ = some (.int .i64 (x 0)))
  have r1 := (e0 1).trans (by go_cell : _ = some (.int .i64 (x 1)))
  have r2 := (e0 2).trans (by go_cell : _ = some (.int .i64 (x 2)))
  have r3 := (e0 3).trans (by go_cell : _ = some (.int .i64 (x 3)))
  have hs5 : w3.heap.size < w5.heap.size := by have := hb.size; simp at this; omega
  clear hb hb0 e0 HA3 HB3 D3 D4
  go_wp2_with fail
  have D6 := Lib.hid (D5.out.alloc D5.out.size (.cells #[.int .i64 (x 0), .int .i64 (x 1), .int .i64 (x 2), .int .i64 (x 3)] 39))
  refine (sameInts_any L L c1 c2 a1 a2 (colF f) (colF f) _ HLn.out HLn.out (HA5.out.keep ((Below.refl _ _).alloc (Nat.le_refl _) _)) (HB5.out.keep ((Below.refl _ _).alloc (Nat.le_refl _) _))).mono ?_
  rw [sameB_yes fun _ _ => rfl]
  rintro e w7 ⟨rfl, hb⟩
  have D7 := Lib.hid (D6.out.trans (hb.mono D6.out.size))
  have e0 := fun b j (h : b < w5.heap.size + 1) => hb.cell (p := ⟨b, j, none⟩) (by simpa using h)
  have q0 := (e0 w3.heap.size 0 (by omega)).trans (by go_cell : _ = some (.int .i64 (x 0)))
  have q1 := (e0 w3.heap.size 1 (by omega)).trans (by go_cell : _ = some (.int .i64 (x 1)))
  have q2 := (e0 w3.heap.size 2 (by omega)).trans (by go_cell : _ = some (.int .i64 (x 2)))
  have q3 := (e0 w3.heap.size 3 (by omega)).trans (by go_cell : _ = some (.int .i64 (x 3)))
  have s0 := (e0 w5.heap.size 0 (by omega)).trans (by go_cell : _ = some (.int .i64 (x 0)))
  have s1 := (e0 w5.heap.size 1 (by omega)).trans (by go_cell : _ = some (.int .i64 (x 1)))
  have s2 := (e0 w5.heap.size 2 (by omega)).trans (by go_cell : _ = some (.int .i64 (x 2)))
  have s3 := (e0 w5.heap.size 3 (by omega)).trans (by go_cell : _ = some (.int .i64 (x 3)))
  clear hb e0 r0 r1 r2 r3 HA5 HB5 D5 D6
  have heq := HEQ.out
  go_wp2_with fail
  clear heq
  refine (mawake_any _).mono ?_
  rintro e w8 ⟨rfl, hb⟩
  have D8 := D7.out.trans (hb.mono D7.out.size)
  clear hb q0 q1 q2 q3 s0 s1 s2 s3
  go_wp2_with fail
  go_returns
  exact ⟨rfl, D8⟩
end Go.Proofs.Ytjodjfllgofkaaa
