import Derived.Test.YtfilofnkiocbeaaBm8
import Derived.Deep.DeepCutAuto
namespace Go.Proofs.Ytfilofnkiocbeaa
open Go.RowKit Ben
/-- Block P holds four things that may be written. -/
def Pw (w : World) (P : Nat) (a b c d : Value) : Prop := (w.cell? ⟨P, 0, none⟩ = some a ∧ w.cell? ⟨P, 1, none⟩ = some b ∧ w.cell? ⟨P, 2, none⟩ = some c ∧ w.cell? ⟨P, 3, none⟩ = some d) ∧ w.frozen? ⟨P, 0, none⟩ = false ∧ w.frozen? ⟨P, 1, none⟩ = false ∧ w.frozen? ⟨P, 2, none⟩ = false ∧ w.frozen? ⟨P, 3, none⟩ = false
theorem Pw.keep {w w1 : World} {P : Nat} {a b c d : Value} (h : Pw w P a b c d) (hb : Below w.heap.size w w1) : Pw w1 P a b c d := by
  obtain ⟨⟨p0, p1, p2, p3⟩, q0, q1, q2, q3⟩ := h
  have hP := World.block_lt_of_cell? _ _ p0
  have e := (bcl hb)
  exact ⟨⟨(e.1 _ _ hP).trans p0, (e.1 _ _ hP).trans p1, (e.1 _ _ hP).trans p2, (e.1 _ _ hP).trans p3⟩, (e.2 _ _ hP).trans q0, (e.2 _ _ hP).trans q1, (e.2 _ _ hP).trans q2, (e.2 _ _ hP).trans q3⟩
theorem Pw.set2 {w : World} {P : Nat} {a b c d : Value} (h : Pw w P a b c d) (v : Value) : Pw (w.setCell ⟨P, 2, none⟩ v) P a b v d := by
  obtain ⟨⟨p0, p1, p2, p3⟩, q0, q1, q2, q3⟩ := h
  exact ⟨⟨by go_cell, by go_cell, by go_cell, by go_cell⟩, by go_cell, by go_cell, by go_cell, by go_cell⟩
theorem Pw.set3 {w : World} {P : Nat} {a b c d : Value} (h : Pw w P a b c d) (v : Value) : Pw (w.setCell ⟨P, 3, none⟩ v) P a b c v := by
  obtain ⟨⟨p0, p1, p2, p3⟩, q0, q1, q2, q3⟩ := h
  exact ⟨⟨by go_cell, by go_cell, by go_cell, by go_cell⟩, by go_cell, by go_cell, by go_cell, by go_cell⟩
set_option maxRecDepth 100000 in
set_option maxHeartbeats 4000000 in
theorem mirror_zero (g o cap : Nat) (f : Nat → Bool) (w : World) (hU : Bl w g o (cn 0) f) :
    Calls Try.prog 64 #[.int .i64 (sz 0 : Nat), .slice (some ⟨g, o, none⟩) (cn 0) cap] w fun e w' => OwnRet_B w.heap.size w' e (cn 0) (cellsB (fun j => f (mi 0 j)) (cn 0)) ∧ Below w.heap.size w w' := by
  show Calls Try.prog 64 #[.int .i64 2, .slice (some ⟨g, o, none⟩) 1 cap] w _
  have HU := Lib.hid hU
  clear hU
  go_enter Try.func64, Try.ntmps64
  go_wp2_with fail
  refine (cloneB_any 1 cap g o f _ (by omega) (by omega) HU.out).mono ?_
  rintro e w1 ⟨⟨V, rfl, hV⟩, hb⟩
  have HV : Hid (w1.ownsRow w.heap.size 4 1 V (cn 0) (cellsB (fun j => f (mi 0 j)) (cn 0))) := Lib.hid hV
  clear hV
  go_wp2_with fail
  go_returns
  exact ⟨⟨_, rfl, HV.out⟩, hb⟩
set_option maxRecDepth 100000 in
set_option maxHeartbeats 16000000 in
theorem mirror_succ (k : Nat) (hk : k ≤ 2) (ih : ∀ (g o cap : Nat) (f : Nat → Bool) (w : World), cn k ≤ cap → cap ≤ 9223372036854775807 → Bl w g o (cn k) f → Calls Try.prog 64 #[.int .i64 (sz k : Nat), .slice (some ⟨g, o, none⟩) (cn k) cap] w fun e w' => OwnRet_B w.heap.size w' e (cn k) (cellsB (fun j => f (mi k j)) (cn k)) ∧ Below w.heap.size w w')
    (g o cap : Nat) (f : Nat → Bool) (w : World) (hc : cn (k + 1) ≤ cap) (hm : cap ≤ 9223372036854775807) (hU : Bl w g o (cn (k + 1)) f) :
    Calls Try.prog 64 #[.int .i64 (sz (k + 1) : Nat), .slice (some ⟨g, o, none⟩) (cn (k + 1)) cap] w fun e w' => OwnRet_B w.heap.size w' e (cn (k + 1)) (cellsB (fun j => f (mi (k + 1) j)) (cn (k + 1))) ∧ Below w.heap.size w w' := by
  have hs2 : sz (k + 1) = 2 * sz k := rfl
  have hc2 : cn (k + 1) = sz (k + 1) + 2 * cn k := rfl
  have hp := cn_pos k
  have hsp := sz_pos k
  have hs16 := sz_le (show k + 1 ≤ 3 by omega)
  have hc56 := cn_le (show k + 1 ≤ 3 by omega)
  have e0 : (((sz (k + 1) : Nat) : Int) == 2) = false := beq_eq_false_iff_ne.2 (by omega)
  have e1 : ((sz (k + 1) : Nat) : Int) / 2 = ((sz k : Nat) : Int) := by omega
  have HU := Lib.hid hU
  have HK := Lib.hid (And.intro hs2 hc2)
  have hcp := Lib.hid hc
  clear hU hs2 hc2
  go_enter Try.func64, Try.ntmps64
  go_wp2_with fail
  refine (partB_any k g o cap _ hk hcp.out hm).mono ?_
  rintro e w1 ⟨rfl, hb1⟩
  have HB1 := Lib.hid hb1
  have HU1 := Lib.hid (HU.out.keep hb1)
  have HGP : Hid (g < w1.heap.size) := Lib.hid (World.block_lt_of_cell? _ _ (HU1.out 0 (by have := HK.out; omega)))
  clear hb1 HU
  go_upto_region 5 with fail
  have pw : Pw (w1.alloc (Obj.cells #[.slice (some ⟨g, o + sz k, none⟩) (sz k) (cap - sz k), .slice (some ⟨g, o, none⟩) (sz k) cap, .slice (some ⟨g, o + sz (k + 1), none⟩) (cn k) (cap - sz (k + 1)), .slice (some ⟨g, o + (sz (k + 1) + cn k), none⟩) (cn k) (cap - sz (k + 1) - cn k)] 83)) w1.heap.size (.slice (some ⟨g, o + sz k, none⟩) (sz k) (cap - sz k)) (.slice (some ⟨g, o, none⟩) (sz k) cap) (.slice (some ⟨g, o + sz (k + 1), none⟩) (cn k) (cap - sz (k + 1))) (.slice (some ⟨g, o + (sz (k + 1) + cn k), none⟩) (cn k) (cap - sz (k + 1) - cn k)) := ⟨⟨by go_cell, by go_cell, by go_cell, by go_cell⟩, by go_cell, by go_cell, by go_cell, by go_cell⟩
  have HP2 := Lib.hid pw
  have hb2 : Below w1.heap.size w1 (w1.alloc (Obj.cells #[.slice (some ⟨g, o + sz k, none⟩) (sz k) (cap - sz k), .slice (some ⟨g, o, none⟩) (sz k) cap, .slice (some ⟨g, o + sz (k + 1), none⟩) (cn k) (cap - sz (k + 1)), .slice (some ⟨g, o + (sz (k + 1) + cn k), none⟩) (cn k) (cap - sz (k + 1) - cn k)] 83)) := by go_grown
  have HU2 := Lib.hid (HU1.out.keep hb2)
  have HB2 := Lib.hid (HB1.out.trans (hb2.mono HB1.out.size))
  have hz2 : w1.heap.size < (w1.alloc (Obj.cells #[.slice (some ⟨g, o + sz k, none⟩) (sz k) (cap - sz k), .slice (some ⟨g, o, none⟩) (sz k) cap, .slice (some ⟨g, o + sz (k + 1), none⟩) (cn k) (cap - sz (k + 1)), .slice (some ⟨g, o + (sz (k + 1) + cn k), none⟩) (cn k) (cap - sz (k + 1) - cn k)] 83)).heap.size := by simp
  have hww := HB1.out.size
  clear pw hb2 HU1 HB1
  generalize (w1.alloc (Obj.cells #[.slice (some ⟨g, o + sz k, none⟩) (sz k) (cap - sz k), .slice (some ⟨g, o, none⟩) (sz k) cap, .slice (some ⟨g, o + sz (k + 1), none⟩) (cn k) (cap - sz (k + 1)), .slice (some ⟨g, o + (sz (k + 1) + cn k), none⟩) (cn k) (cap - sz (k + 1) - cn k)] 83)) = w2 at *
  generalize w1.heap.size = P at *
  have hgw : g < w2.heap.size := World.block_lt_of_cell? _ _ (HU2.out 0 (by have := HK.out; omega))
  obtain ⟨⟨p0, p1, p2, p3⟩, _⟩ := HP2.out
  have i0 : ∀ w, (Instr.index 81 (.agg #[.slice (some ⟨g, o + sz (k + 1), none⟩) (cn k) (cap - sz (k + 1)), .slice (some ⟨g, o + (sz (k + 1) + cn k), none⟩) (cn k) (cap - sz (k + 1) - cn k)]) (.int .i64 0)).run Try.prog w = .ok (.slice (some ⟨g, o + sz (k + 1), none⟩) (cn k) (cap - sz (k + 1))) w := fun _ => rfl
  have i1 : ∀ w, (Instr.index 81 (.agg #[.slice (some ⟨g, o + sz (k + 1), none⟩) (cn k) (cap - sz (k + 1)), .slice (some ⟨g, o + (sz (k + 1) + cn k), none⟩) (cn k) (cap - sz (k + 1) - cn k)]) (.int .i64 1)).run Try.prog w = .ok (.slice (some ⟨g, o + (sz (k + 1) + cn k), none⟩) (cn k) (cap - sz (k + 1) - cn k)) w := fun _ => rfl
  go_wp2_with fail
  refine wp_loop_rounds 3 ?_
  rw [rounds_succ]
  clear p0 p1 p2 p3
  go_wp2_with fail
  refine (ih g (o + sz (k + 1)) (cap - sz (k + 1)) (fun j => f (sz (k + 1) + j)) _ (by have := HK.out; have := hcp.out; omega) (by omega) (HU2.out.part (sz (k + 1)) (cn k) (by have := HK.out; omega))).mono ?_
  rintro e w3 ⟨⟨V3, rfl, hV3⟩, hb3⟩
  obtain ⟨g3, c3, rfl, hgB3, hgs3, _, _⟩ := own_fm hV3 hp
  have HV3 := Lib.hid hV3
  have HP3 := Lib.hid (HP2.out.keep hb3)
  have HU3 := Lib.hid (HU2.out.keep hb3)
  have HB3 := Lib.hid (HB2.out.trans (hb3.mono HB2.out.size))
  have hz3 := hb3.size
  have hP3 : P < w3.heap.size := by omega
  clear hV3 hb3 HP2 HU2 HB2
  obtain ⟨⟨p0, p1, p2, p3⟩, q0, q1, q2, q3⟩ := HP3.out
  have HP4 := Lib.hid (HP3.out.set2 (.slice (some ⟨g3, 0, none⟩) (cn k) c3))
  have hgP : ¬ P = g := by have := HGP.out; omega
  have hgP3 : ¬ P = g3 := by omega
  have HU4 : Hid (Bl (w3.setCell ⟨P, 2, none⟩ (.slice (some ⟨g3, 0, none⟩) (cn k) c3)) g o (cn (k + 1)) f) := Lib.hid (fun j hj => by have h := HU3.out j hj; go_cell)
  have HB4 : Hid (Below w.heap.size w (w3.setCell ⟨P, 2, none⟩ (.slice (some ⟨g3, 0, none⟩) (cn k) c3))) := Lib.hid (HB3.out.setCell (p := ⟨P, 2, none⟩) (by simp only; omega) _)
  have HV4 := Lib.hid (own_set (b := P) (k := 2) (u := .slice (some ⟨g3, 0, none⟩) (cn k) c3) HV3.out (by omega))
  have hz4 : (w3.setCell ⟨P, 2, none⟩ (.slice (some ⟨g3, 0, none⟩) (cn k) c3)).heap.size = w3.heap.size := by simp
  have HZ4 := Lib.hid hz4
  clear HU3 HB3 HV3 HP3 hz4
  have hgw4 : g3 < (w3.setCell ⟨P, 2, none⟩ (.slice (some ⟨g3, 0, none⟩) (cn k) c3)).heap.size := by rw [HZ4.out]; exact hgs3
  have hP4 : P < (w3.setCell ⟨P, 2, none⟩ (.slice (some ⟨g3, 0, none⟩) (cn k) c3)).heap.size := by rw [HZ4.out]; exact hP3
  go_wp2_with fail
  rw [rounds_succ]
  generalize (w3.setCell ⟨P, 2, none⟩ (.slice (some ⟨g3, 0, none⟩) (cn k) c3)) = w4 at *
  clear p0 p1 p2 p3 q0 q1 q2 q3 HZ4
  go_wp2_with fail
  refine (ih g (o + (sz (k + 1) + cn k)) (cap - sz (k + 1) - cn k) (fun j => f (sz (k + 1) + cn k + j)) _ (by have := HK.out; have := hcp.out; omega) (by omega) (HU4.out.part (sz (k + 1) + cn k) (cn k) (by have := HK.out; omega))).mono ?_
  rintro e w5 ⟨⟨V5, rfl, hV5⟩, hb5⟩
  obtain ⟨g5, c5, rfl, hgB5, hgs5, _, _⟩ := own_fm hV5 hp
  have HV5 := Lib.hid hV5
  have HP5 := Lib.hid (HP4.out.keep hb5)
  have HU5 := Lib.hid (HU4.out.keep hb5)
  have HB5 := Lib.hid (HB4.out.trans (hb5.mono HB4.out.size))
  have HV45 := Lib.hid (own_below' HV4.out hb5)
  have hz5 := hb5.size
  have hP5 : P < w5.heap.size := by omega
  clear hV5 hb5 HP4 HU4 HB4 HV4
  obtain ⟨⟨p0, p1, p2, p3⟩, q0, q1, q2, q3⟩ := HP5.out
  have HP6 := Lib.hid (HP5.out.set3 (.slice (some ⟨g5, 0, none⟩) (cn k) c5))
  have hgP5 : ¬ P = g5 := by omega
  have HU6 : Hid (Bl (w5.setCell ⟨P, 3, none⟩ (.slice (some ⟨g5, 0, none⟩) (cn k) c5)) g o (cn (k + 1)) f) := Lib.hid (fun j hj => by have h := HU5.out j hj; go_cell)
  have HB6 : Hid (Below w.heap.size w (w5.setCell ⟨P, 3, none⟩ (.slice (some ⟨g5, 0, none⟩) (cn k) c5))) := Lib.hid (HB5.out.setCell (p := ⟨P, 3, none⟩) (by simp only; omega) _)
  have HV6 := Lib.hid (own_set (b := P) (k := 3) (u := .slice (some ⟨g5, 0, none⟩) (cn k) c5) HV45.out (by omega))
  have HV7 := Lib.hid (own_set (b := P) (k := 3) (u := .slice (some ⟨g5, 0, none⟩) (cn k) c5) HV5.out (by omega))
  have hz6 : (w5.setCell ⟨P, 3, none⟩ (.slice (some ⟨g5, 0, none⟩) (cn k) c5)).heap.size = w5.heap.size := by simp
  have hz6' : w5.heap.size ≤ (w5.setCell ⟨P, 3, none⟩ (.slice (some ⟨g5, 0, none⟩) (cn k) c5)).heap.size := by rw [hz6]; exact Nat.le_refl _
  clear HU5 HB5 HV5 HV45 HP5 hz6
  go_wp2_with fail
  rw [rounds_succ]
  generalize (w5.setCell ⟨P, 3, none⟩ (.slice (some ⟨g5, 0, none⟩) (cn k) c5)) = w6 at *
  clear p0 p1 p2 p3 q0 q1 q2 q3
  obtain ⟨⟨p0, p1, p2, p3⟩, _⟩ := HP6.out
  go_wp2_with fail
  refine (joinedB_of g g g3 g5 (o + sz k) o 0 0 (cap - sz k) cap c3 c5 (sz k) (sz k) (cn k) (cn k) (cellsB (fun j => f (sz k + j)) (sz k)) (cellsB f (sz k)) (cellsB (fun j => f (sz (k + 1) + mi k j)) (cn k)) (cellsB (fun j => f (sz (k + 1) + cn k + mi k j)) (cn k)) _ (cellsB_len _ _) (cellsB_len _ _) (cellsB_len _ _) (cellsB_len _ _) (HU6.out.part (sz k) (sz k) (by have := HK.out; omega)).lst (HU6.out.part 0 (sz k) (by have := HK.out; omega)).lst0 (Lst_own HV6.out) (Lst_own HV7.out) (cellsB_one _ _) (cellsB_one _ _) (cellsB_one _ _) (cellsB_one _ _) (by omega) (by have := HK.out; omega)).mono ?_
  rintro e w9 ⟨⟨V9, rfl, hV9⟩, hb9⟩
  rw [← mir_parts, show sz k + sz k + cn k + cn k = cn (k + 1) by have := HK.out; omega] at hV9
  have HV9 := Lib.hid (own_weak hV9 HB6.out.size)
  have hbl := HB6.out.trans (hb9.mono HB6.out.size)
  clear hV9 hb9 p0 p1 p2 p3 HV6 HV7 HP6 HU6 HB6
  go_wp2_with fail
  go_returns
  exact ⟨⟨_, rfl, HV9.out⟩, hbl⟩
theorem mirror_any : ∀ (k : Nat), k ≤ 3 → ∀ (g o cap : Nat) (f : Nat → Bool) (w : World), cn k ≤ cap → cap ≤ 9223372036854775807 → Bl w g o (cn k) f → Calls Try.prog 64 #[.int .i64 (sz k : Nat), .slice (some ⟨g, o, none⟩) (cn k) cap] w fun e w' => OwnRet_B w.heap.size w' e (cn k) (cellsB (fun j => f (mi k j)) (cn k)) ∧ Below w.heap.size w w' := by
  intro k
  induction k with
  | zero => intro _ g o cap f w _ _ h; exact mirror_zero g o cap f w h
  | succ k ih => intro hk g o cap f w h1 h2 h; exact mirror_succ k (by omega) (ih (by omega)) g o cap f w h1 h2 h
end Go.Proofs.Ytfilofnkiocbeaa
