import Derived.Test.YtfilofnkiocbeaaBf8
namespace Ben
theorem sz_le {k : Nat} (h : k ≤ 3) : sz k ≤ 16 := by
  have : k = 0 ∨ k = 1 ∨ k = 2 ∨ k = 3 := by omega
  rcases this with rfl | rfl | rfl | rfl <;> decide
theorem cn_le {k : Nat} (h : k ≤ 3) : cn k ≤ 56 := by
  have : k = 0 ∨ k = 1 ∨ k = 2 ∨ k = 3 := by omega
  rcases this with rfl | rfl | rfl | rfl <;> decide
/-- Three things as a function. -/
def f3 {α : Type} (a b c : α) : Nat → α
  | 0 => a
  | 1 => b
  | _ => c
theorem all3 {P : Nat → Prop} (h0 : P 0) (h1 : P 1) (h2 : P 2) : ∀ i, i < 3 → P i := by
  intro i hi
  have : i = 0 ∨ i = 1 ∨ i = 2 := by omega
  rcases this with rfl | rfl | rfl
  · exact h0
  · exact h1
  · exact h2
end Ben
namespace Go.Proofs.Ytfilofnkiocbeaa
open Go.RowKit Ben
theorem Lst_one {w : World} {b : Nat} {x : Value} (h : w.cell? ⟨b, 0, none⟩ = some x) : Lst w b 0 [x] := by
  intro j v hv
  cases j with
  | zero => simp only [List.getElem?_cons_zero, Option.some.injEq] at hv; subst hv; exact h
  | succ j => simp at hv
theorem Lst_own {w : World} {B g n cap : Nat} {E : TypeId} {xs : List Value} (h : w.ownsRow B E 1 (.slice (some ⟨g, 0, none⟩) n cap) n xs) : Lst w g 0 xs := by
  intro j v hv
  have hj := (List.getElem?_eq_some_iff.1 hv).1
  have hl := h.1
  rw [Nat.zero_add]
  exact (h.cellAt j (by omega)).trans hv
theorem own_weak {w : World} {B B' n m : Nat} {E : TypeId} {V : Value} {xs : List Value} (h : w.ownsRow B E m V n xs) (hb : B' ≤ B) : w.ownsRow B' E m V n xs := by
  refine ⟨h.1, ?_⟩
  rcases h.2 with h2 | ⟨g, cap, cur, h1, h2, h3⟩
  · exact .inl h2
  · exact .inr ⟨g, cap, cur, h1, Nat.le_trans hb h2, h3⟩
set_option maxRecDepth 100000 in
set_option maxHeartbeats 16000000 in
theorem follow_succ (s : Nat → Bool) (k : Nat) (hk : k ≤ 2) (ih : ∀ (g o cap b i : Nat) (w : World), cn k ≤ cap → cap ≤ 9223372036854775807 → b + cn k ≤ 80 → i < sz k → Unw w g o (cn k) b s → Calls Try.prog 66 #[.int .i64 (sz k : Nat), .slice (some ⟨g, o, none⟩) (cn k) cap, .int .i64 i] w fun e w' => FolR w.heap.size w' e s k b i ∧ Below w.heap.size w w')
    (g o cap b i : Nat) (w : World) (hc : cn (k + 1) ≤ cap) (hm : cap ≤ 9223372036854775807) (hb : b + cn (k + 1) ≤ 80) (hi : i < sz (k + 1)) (hU : Unw w g o (cn (k + 1)) b s) :
    Calls Try.prog 66 #[.int .i64 (sz (k + 1) : Nat), .slice (some ⟨g, o, none⟩) (cn (k + 1)) cap, .int .i64 i] w fun e w' => FolR w.heap.size w' e s (k + 1) b i ∧ Below w.heap.size w w' := by
  have hs2 : sz (k + 1) = 2 * sz k := rfl
  have hc2 : cn (k + 1) = sz (k + 1) + 2 * cn k := rfl
  have hp := cn_pos k
  have hsp := sz_pos k
  have hs16 := sz_le (show k + 1 ≤ 3 by omega)
  obtain ⟨x, hx⟩ : ∃ x, i / 2 = x := ⟨_, rfl⟩
  obtain ⟨r, hr⟩ : ∃ r, i % 2 = r := ⟨_, rfl⟩
  have hr2 : r < 2 := by omega
  have hxl : x < sz k := by omega
  obtain ⟨t, ht⟩ : ∃ t, s (b + x) = t := ⟨_, rfl⟩
  obtain ⟨q, hq⟩ : ∃ q, fl t r = q := ⟨_, rfl⟩
  have hq2 : q < 2 := by rw [← hq]; exact fl_lt hr2
  obtain ⟨a, ha⟩ : ∃ a, out s k (b + sz (k + 1) + q * cn k) x = a := ⟨_, rfl⟩
  have hal : a < sz k := by rw [← ha]; exact out_lt s k _ _ hxl
  obtain ⟨t2, ht2⟩ : ∃ t2, s (b + sz k + a) = t2 := ⟨_, rfl⟩
  have HOUT : Hid (out s (k + 1) b i = 2 * a + fl t2 q ∧ met s (k + 1) b i = (b + x) :: (met s k (b + sz (k + 1) + q * cn k) x ++ [b + sz k + a])) := Lib.hid (by
    simp only [out, met]
    rw [hx, hr, ht, hq, ha, ht2]
    exact ⟨rfl, rfl⟩)
  have e0 : (((sz (k + 1) : Nat) : Int) == 2) = false := beq_eq_false_iff_ne.2 (by omega)
  have e1 : ((sz (k + 1) : Nat) : Int) / 2 = ((sz k : Nat) : Int) := by omega
  have e2 : (i : Int) / 2 = (x : Int) := by omega
  have e3 : (i : Int) % 2 = (r : Int) := by omega
  have HU := Lib.hid hU
  have HA := Lib.hid ha
  have HQ := Lib.hid hq
  have hcp := Lib.hid hc
  have hbp := Lib.hid hb
  clear hU hx hr ha hq hi
  go_enter Try.func66, Try.ntmps66
  go_wp2_with fail
  refine (partU_any k g o cap _ hk hcp.out hm).mono ?_
  rintro e w1 ⟨rfl, hb1⟩
  have HB1 := Lib.hid hb1
  have hU1 := HU.out.keep hb1
  have HU1 := Lib.hid hU1
  obtain ⟨g0, g1⟩ := hU1 x (by omega)
  rw [ht] at g1
  obtain ⟨y1, hy1⟩ : ∃ y, b + x = y := ⟨_, rfl⟩
  have HY1 := Lib.hid hy1
  rw [hy1] at g0
  clear hy1
  have hgz := World.block_lt_of_cell? _ _ g0
  clear hb1 HU hU1 hs2 hc2
  have hlx : (x : Int) < ((sz k : Nat) : Int) := by omega
  go_wp2_with fail
  refine (passed_any _ t r _ hr2).mono ?_
  rw [HQ.out]
  rintro e w' ⟨rfl, rfl⟩
  go_upto_region 7 with fail
  have p0 : (((w1.alloc (Obj.cells #[.slice (some ⟨g, o, none⟩) (sz k) cap, .slice (some ⟨g, o + sz k * 2, none⟩) (sz k) (cap - sz k), .slice (some ⟨g, o + sz (k + 1) * 2, none⟩) (cn k) (cap - sz (k + 1)), .slice (some ⟨g, o + (sz (k + 1) + cn k) * 2, none⟩) (cn k) (cap - sz (k + 1) - cn k)] 95)).alloc (Obj.cells #[.int .i64 (y1 : Int), .bool t] 92)).alloc (Obj.cells #[.int .i64 (y1 : Int), .bool t] 92)).cell? ⟨w1.heap.size, 0, none⟩ = some (.slice (some ⟨g, o, none⟩) (sz k) cap) := by go_cell
  have p1 : (((w1.alloc (Obj.cells #[.slice (some ⟨g, o, none⟩) (sz k) cap, .slice (some ⟨g, o + sz k * 2, none⟩) (sz k) (cap - sz k), .slice (some ⟨g, o + sz (k + 1) * 2, none⟩) (cn k) (cap - sz (k + 1)), .slice (some ⟨g, o + (sz (k + 1) + cn k) * 2, none⟩) (cn k) (cap - sz (k + 1) - cn k)] 95)).alloc (Obj.cells #[.int .i64 (y1 : Int), .bool t] 92)).alloc (Obj.cells #[.int .i64 (y1 : Int), .bool t] 92)).cell? ⟨w1.heap.size, 1, none⟩ = some (.slice (some ⟨g, o + sz k * 2, none⟩) (sz k) (cap - sz k)) := by go_cell
  have p2 : (((w1.alloc (Obj.cells #[.slice (some ⟨g, o, none⟩) (sz k) cap, .slice (some ⟨g, o + sz k * 2, none⟩) (sz k) (cap - sz k), .slice (some ⟨g, o + sz (k + 1) * 2, none⟩) (cn k) (cap - sz (k + 1)), .slice (some ⟨g, o + (sz (k + 1) + cn k) * 2, none⟩) (cn k) (cap - sz (k + 1) - cn k)] 95)).alloc (Obj.cells #[.int .i64 (y1 : Int), .bool t] 92)).alloc (Obj.cells #[.int .i64 (y1 : Int), .bool t] 92)).cell? ⟨w1.heap.size, 2, none⟩ = some (.slice (some ⟨g, o + sz (k + 1) * 2, none⟩) (cn k) (cap - sz (k + 1))) := by go_cell
  have p3 : (((w1.alloc (Obj.cells #[.slice (some ⟨g, o, none⟩) (sz k) cap, .slice (some ⟨g, o + sz k * 2, none⟩) (sz k) (cap - sz k), .slice (some ⟨g, o + sz (k + 1) * 2, none⟩) (cn k) (cap - sz (k + 1)), .slice (some ⟨g, o + (sz (k + 1) + cn k) * 2, none⟩) (cn k) (cap - sz (k + 1) - cn k)] 95)).alloc (Obj.cells #[.int .i64 (y1 : Int), .bool t] 92)).alloc (Obj.cells #[.int .i64 (y1 : Int), .bool t] 92)).cell? ⟨w1.heap.size, 3, none⟩ = some (.slice (some ⟨g, o + (sz (k + 1) + cn k) * 2, none⟩) (cn k) (cap - sz (k + 1) - cn k)) := by go_cell
  have u0 : (((w1.alloc (Obj.cells #[.slice (some ⟨g, o, none⟩) (sz k) cap, .slice (some ⟨g, o + sz k * 2, none⟩) (sz k) (cap - sz k), .slice (some ⟨g, o + sz (k + 1) * 2, none⟩) (cn k) (cap - sz (k + 1)), .slice (some ⟨g, o + (sz (k + 1) + cn k) * 2, none⟩) (cn k) (cap - sz (k + 1) - cn k)] 95)).alloc (Obj.cells #[.int .i64 (y1 : Int), .bool t] 92)).alloc (Obj.cells #[.int .i64 (y1 : Int), .bool t] 92)).cell? ⟨w1.heap.size + 1, 0, none⟩ = some (.int .i64 (y1 : Int)) := by go_cell
  have u1 : (((w1.alloc (Obj.cells #[.slice (some ⟨g, o, none⟩) (sz k) cap, .slice (some ⟨g, o + sz k * 2, none⟩) (sz k) (cap - sz k), .slice (some ⟨g, o + sz (k + 1) * 2, none⟩) (cn k) (cap - sz (k + 1)), .slice (some ⟨g, o + (sz (k + 1) + cn k) * 2, none⟩) (cn k) (cap - sz (k + 1) - cn k)] 95)).alloc (Obj.cells #[.int .i64 (y1 : Int), .bool t] 92)).alloc (Obj.cells #[.int .i64 (y1 : Int), .bool t] 92)).cell? ⟨w1.heap.size + 1, 1, none⟩ = some (.bool t) := by go_cell
  have z3 : w1.heap.size + 1 < (((w1.alloc (Obj.cells #[.slice (some ⟨g, o, none⟩) (sz k) cap, .slice (some ⟨g, o + sz k * 2, none⟩) (sz k) (cap - sz k), .slice (some ⟨g, o + sz (k + 1) * 2, none⟩) (cn k) (cap - sz (k + 1)), .slice (some ⟨g, o + (sz (k + 1) + cn k) * 2, none⟩) (cn k) (cap - sz (k + 1) - cn k)] 95)).alloc (Obj.cells #[.int .i64 (y1 : Int), .bool t] 92)).alloc (Obj.cells #[.int .i64 (y1 : Int), .bool t] 92)).heap.size := by simp
  have hb3 : Below w1.heap.size w1 (((w1.alloc (Obj.cells #[.slice (some ⟨g, o, none⟩) (sz k) cap, .slice (some ⟨g, o + sz k * 2, none⟩) (sz k) (cap - sz k), .slice (some ⟨g, o + sz (k + 1) * 2, none⟩) (cn k) (cap - sz (k + 1)), .slice (some ⟨g, o + (sz (k + 1) + cn k) * 2, none⟩) (cn k) (cap - sz (k + 1) - cn k)] 95)).alloc (Obj.cells #[.int .i64 (y1 : Int), .bool t] 92)).alloc (Obj.cells #[.int .i64 (y1 : Int), .bool t] 92)) := by go_grown
  have HB3 := Lib.hid (HB1.out.trans (hb3.mono HB1.out.size))
  have HU3 := Lib.hid (HU1.out.keep hb3)
  have HP3 := Lib.hid (And.intro p0 (And.intro p1 (And.intro p2 p3)))
  have HV3 := Lib.hid (And.intro u0 u1)
  have HZ3 := Lib.hid z3
  have HBZ := Lib.hid HB1.out.size
  clear p0 p1 p2 p3 u0 u1 z3 hb3 g0 g1 hgz HU1 HB1 hlx
  generalize (((w1.alloc (Obj.cells #[.slice (some ⟨g, o, none⟩) (sz k) cap, .slice (some ⟨g, o + sz k * 2, none⟩) (sz k) (cap - sz k), .slice (some ⟨g, o + sz (k + 1) * 2, none⟩) (cn k) (cap - sz (k + 1)), .slice (some ⟨g, o + (sz (k + 1) + cn k) * 2, none⟩) (cn k) (cap - sz (k + 1) - cn k)] 95)).alloc (Obj.cells #[.int .i64 (y1 : Int), .bool t] 92)).alloc (Obj.cells #[.int .i64 (y1 : Int), .bool t] 92)) = w3 at *
  generalize w1.heap.size = B1 at *
  obtain ⟨hp0, hp1, hp2, hp3⟩ := HP3.out
  have hz3 := HZ3.out
  have HH : Hid (Unw w3 g (o + (sz (k + 1) + q * cn k) * 2) (cn k) (b + sz (k + 1) + q * cn k) s) := Lib.hid (by
    have h := half_in (k := k) hq2
    have h2 := HU3.out.part (sz (k + 1) + q * cn k) (cn k) (by omega)
    rw [show b + (sz (k + 1) + q * cn k) = b + sz (k + 1) + q * cn k by omega] at h2
    exact h2)
  have HHI := Lib.hid (half_in (k := k) hq2)
  have hxi : 0 ≤ (x : Int) := by omega
  have q01 : q = 0 ∨ q = 1 := by omega
  rcases q01 with rfl | rfl
  · have ad : o + (sz (k + 1) + 0 * cn k) * 2 = o + sz (k + 1) * 2 := by omega
    rw [ad] at HH
    clear ad
    go_wp2_with fail
    refine (ih g (o + sz (k + 1) * 2) (cap - sz (k + 1)) (b + sz (k + 1) + 0 * cn k) x _ (by have := hcp.out; rw [show cn (k + 1) = sz (k + 1) + 2 * cn k from rfl] at this; omega) (by omega) (by have := hbp.out; have := HHI.out; omega) hxl HH.out).mono ?_
    rintro e w4 ⟨⟨V, he, hV⟩, hb4⟩
    rw [HA.out] at he
    subst he
    obtain ⟨gV, cV, rfl, hgV, hgs, hgc, hgm⟩ := own_fm hV (by unfold dp; omega)
    have HV4 := Lib.hid hV
    have HB4 := Lib.hid (HB3.out.trans (hb4.mono HB3.out.size))
    have HU4 := HU3.out.keep hb4
    obtain ⟨v0, v1⟩ := HU4.part (sz k) (sz k) (by rw [show cn (k + 1) = sz (k + 1) + 2 * cn k from rfl]; rw [show sz (k + 1) = 2 * sz k from rfl]; omega) a hal
    rw [ht2] at v1
    obtain ⟨y2, hy2⟩ : ∃ y, b + sz k + a = y := ⟨_, rfl⟩
    have HY2 := Lib.hid hy2
    rw [hy2] at v0
    have hgz := World.block_lt_of_cell? _ _ v0
    have s1 := (hb4.cell (p := ⟨B1, 1, none⟩) (by simp only; omega)).trans hp1
    have u0 := (hb4.cell (p := ⟨B1 + 1, 0, none⟩) (by simp only; omega)).trans HV3.out.1
    have hz4 := hb4.size
    have hB14 : B1 < w4.heap.size := by omega
    have hB15 : B1 + 1 < w4.heap.size := by omega
    have hla : (a : Int) < ((sz k : Nat) : Int) := by omega
    have hHB := Lib.hid (And.intro HB3.out.size hgV)
    clear hy2 hV hb4 HU4 HU3 HB3 HH hp0 hp1 hp2 hp3 HP3 HV3 hz3 HZ3 hgV ht ht2
    go_upto_region 9 with fail
    have W5u0 : (w4.alloc (Obj.cells #[.int .i64 (y2 : Int), .bool t2] 92)).cell? ⟨B1 + 1, 0, none⟩ = some (.int .i64 (y1 : Int)) := by go_cell
    have W5v0 : (w4.alloc (Obj.cells #[.int .i64 (y2 : Int), .bool t2] 92)).cell? ⟨w4.heap.size, 0, none⟩ = some (.int .i64 (y2 : Int)) := by go_cell
    have W5v1 : (w4.alloc (Obj.cells #[.int .i64 (y2 : Int), .bool t2] 92)).cell? ⟨w4.heap.size, 1, none⟩ = some (.bool t2) := by go_cell
    have hb5 : Below w4.heap.size w4 (w4.alloc (Obj.cells #[.int .i64 (y2 : Int), .bool t2] 92)) := by go_grown
    have hz5 : w4.heap.size < (w4.alloc (Obj.cells #[.int .i64 (y2 : Int), .bool t2] 92)).heap.size := by simp
    have HB5 := Lib.hid (HB4.out.trans (hb5.mono HB4.out.size))
    have HV5 := Lib.hid (own_below' HV4.out hb5)
    clear v0 v1 s1 u0 HV4 hgz hb5
    generalize (w4.alloc (Obj.cells #[.int .i64 (y2 : Int), .bool t2] 92)) = w5 at *
    have hgV5 : gV < w5.heap.size := by omega
    have hB25 : B1 + 1 < w5.heap.size := by omega
    generalize w4.heap.size = B2 at *
    have W8c : (((w5.alloc (Obj.cells #[.int .i64 (y1 : Int)] 3)).alloc (Obj.cells #[.int .i64 (y2 : Int)] 3)).alloc (Obj.cells #[.slice (some ⟨w5.heap.size, 0, none⟩) 1 1, .slice (some ⟨gV, 0, none⟩) (dp k) cV, .slice (some ⟨w5.heap.size + 1, 0, none⟩) 1 1] 28)).cell? ⟨w5.heap.size + 2, 0, none⟩ = some (.slice (some ⟨w5.heap.size, 0, none⟩) 1 1) ∧ (((w5.alloc (Obj.cells #[.int .i64 (y1 : Int)] 3)).alloc (Obj.cells #[.int .i64 (y2 : Int)] 3)).alloc (Obj.cells #[.slice (some ⟨w5.heap.size, 0, none⟩) 1 1, .slice (some ⟨gV, 0, none⟩) (dp k) cV, .slice (some ⟨w5.heap.size + 1, 0, none⟩) 1 1] 28)).cell? ⟨w5.heap.size + 2, 1, none⟩ = some (.slice (some ⟨gV, 0, none⟩) (dp k) cV) ∧ (((w5.alloc (Obj.cells #[.int .i64 (y1 : Int)] 3)).alloc (Obj.cells #[.int .i64 (y2 : Int)] 3)).alloc (Obj.cells #[.slice (some ⟨w5.heap.size, 0, none⟩) 1 1, .slice (some ⟨gV, 0, none⟩) (dp k) cV, .slice (some ⟨w5.heap.size + 1, 0, none⟩) 1 1] 28)).cell? ⟨w5.heap.size + 2, 2, none⟩ = some (.slice (some ⟨w5.heap.size + 1, 0, none⟩) 1 1) ∧ (((w5.alloc (Obj.cells #[.int .i64 (y1 : Int)] 3)).alloc (Obj.cells #[.int .i64 (y2 : Int)] 3)).alloc (Obj.cells #[.slice (some ⟨w5.heap.size, 0, none⟩) 1 1, .slice (some ⟨gV, 0, none⟩) (dp k) cV, .slice (some ⟨w5.heap.size + 1, 0, none⟩) 1 1] 28)).cell? ⟨w5.heap.size, 0, none⟩ = some (.int .i64 (y1 : Int)) ∧ (((w5.alloc (Obj.cells #[.int .i64 (y1 : Int)] 3)).alloc (Obj.cells #[.int .i64 (y2 : Int)] 3)).alloc (Obj.cells #[.slice (some ⟨w5.heap.size, 0, none⟩) 1 1, .slice (some ⟨gV, 0, none⟩) (dp k) cV, .slice (some ⟨w5.heap.size + 1, 0, none⟩) 1 1] 28)).cell? ⟨w5.heap.size + 1, 0, none⟩ = some (.int .i64 (y2 : Int)) := ⟨by go_cell, by go_cell, by go_cell, by go_cell, by go_cell⟩
    have W8b : Below w5.heap.size w5 (((w5.alloc (Obj.cells #[.int .i64 (y1 : Int)] 3)).alloc (Obj.cells #[.int .i64 (y2 : Int)] 3)).alloc (Obj.cells #[.slice (some ⟨w5.heap.size, 0, none⟩) 1 1, .slice (some ⟨gV, 0, none⟩) (dp k) cV, .slice (some ⟨w5.heap.size + 1, 0, none⟩) 1 1] 28)) := by go_grown
    have H8C := Lib.hid W8c
    have H8B := Lib.hid W8b
    clear W8c W8b
    go_wp2_with fail
    obtain ⟨c0, c1, c2, d1, d2⟩ := H8C.out
    have HL := own_below' HV5.out H8B.out
    have hlen : (cellsN (met s k (b + sz (k + 1) + 0 * cn k) x)).length = dp k := by rw [cellsN_len, met_len]
    have hz8 := H8B.out.size
    refine (concat_I 3 (w5.heap.size + 2) 0 3 (f3 w5.heap.size gV (w5.heap.size + 1)) (f3 0 0 0) (f3 1 cV 1) (f3 [.int .i64 (y1 : Int)] (cellsN (met s k (b + sz (k + 1) + 0 * cn k) x)) [.int .i64 (y2 : Int)]) _ (by omega) (by omega) (all3 c0 (by show World.cell? _ _ = some (.slice (some ⟨gV, 0, none⟩) (cellsN (met s k (b + sz (k + 1) + 0 * cn k) x)).length cV); rw [hlen]; exact c1) c2) (all3 (Lst_one d1) (Lst_own HL) (Lst_one d2)) (all3 (by simp [f3, Value.oneCell']) (cellsN_one _) (by simp [f3, Value.oneCell'])) ?_ ?_).mono ?_
    · show 1 ≤ ((([] ++ [Value.int .i64 (y1 : Int)]) ++ cellsN (met s k (b + sz (k + 1) + 0 * cn k) x)) ++ [Value.int .i64 (y2 : Int)]).length
      simp
    · show ((([] ++ [Value.int .i64 (y1 : Int)]) ++ cellsN (met s k (b + sz (k + 1) + 0 * cn k) x)) ++ [Value.int .i64 (y2 : Int)]).length ≤ 1000
      rw [List.length_append, List.length_append, hlen]
      simp [dp]; omega
    have hcat : cat (f3 [Value.int .i64 (y1 : Int)] (cellsN (met s k (b + sz (k + 1) + 0 * cn k) x)) [Value.int .i64 (y2 : Int)]) 3 = cellsN (met s (k + 1) b i) := by
      show (([] ++ [Value.int .i64 (y1 : Int)]) ++ cellsN (met s k (b + sz (k + 1) + 0 * cn k) x)) ++ [Value.int .i64 (y2 : Int)] = _
      rw [HOUT.out.2, HY1.out, HY2.out]
      simp [cellsN]
    rw [hcat, cellsN_len, met_len]
    rintro e w9 ⟨⟨V9, rfl, hV9⟩, hb9⟩
    have x0 := (hb9.cell (p := ⟨B2, 0, none⟩) (by simp only; omega)).trans ((H8B.out.cell (p := ⟨B2, 0, none⟩) (by simp only; omega)).trans W5v0)
    have x1 := (hb9.cell (p := ⟨B2, 1, none⟩) (by simp only; omega)).trans ((H8B.out.cell (p := ⟨B2, 1, none⟩) (by simp only; omega)).trans W5v1)
    have HV9 := Lib.hid (own_weak hV9 (show w.heap.size ≤ _ from Nat.le_trans HB5.out.size hz8))
    have HB9 := Lib.hid (HB5.out.trans ((H8B.out.trans (hb9.mono hz8)).mono HB5.out.size))
    have hz9 := hb9.size
    have hB29 : B2 < w9.heap.size := by omega
    obtain ⟨z, hz⟩ : ∃ z, fl t2 0 = z := ⟨_, rfl⟩
    have HZ := Lib.hid hz
    have hz2 : z < 2 := by rw [← hz]; exact fl_lt (by omega)
    have ha16 : (a : Int) ≤ 16 := by omega
    have hbl := HB9.out
    have hwz := hbl.size
    clear hcat hlen c0 c1 c2 d1 d2 HL W5u0 W5v0 W5v1 hV9 hb9 hz H8C H8B HV5
    go_wp2_with fail
    refine (passed_any _ t2 0 _ (by omega)).mono ?_
    rw [HZ.out]
    rintro e w' ⟨rfl, rfl⟩
    go_wp2_with fail
    refine bodyPost_ret (v := .tuple #[V9, .int .i64 (2 * (a : Int) + (z : Int))]) (by simp [results, Try.results66, go_sem]) rfl ⟨⟨V9, ?_, own_below' HV9.out (by go_grown)⟩, by go_grown⟩
    rw [HOUT.out.1, HZ.out, show ((2 * a + z : Nat) : Int) = 2 * (a : Int) + (z : Int) by omega]
  · have ad : o + (sz (k + 1) + 1 * cn k) * 2 = o + (sz (k + 1) + cn k) * 2 := by omega
    rw [ad] at HH
    clear ad
    go_wp2_with fail
    refine (ih g (o + (sz (k + 1) + cn k) * 2) (cap - sz (k + 1) - cn k) (b + sz (k + 1) + 1 * cn k) x _ (by have := hcp.out; rw [show cn (k + 1) = sz (k + 1) + 2 * cn k from rfl] at this; omega) (by omega) (by have := hbp.out; have := HHI.out; omega) hxl HH.out).mono ?_
    rintro e w4 ⟨⟨V, he, hV⟩, hb4⟩
    rw [HA.out] at he
    subst he
    obtain ⟨gV, cV, rfl, hgV, hgs, hgc, hgm⟩ := own_fm hV (by unfold dp; omega)
    have HV4 := Lib.hid hV
    have HB4 := Lib.hid (HB3.out.trans (hb4.mono HB3.out.size))
    have HU4 := HU3.out.keep hb4
    obtain ⟨v0, v1⟩ := HU4.part (sz k) (sz k) (by rw [show cn (k + 1) = sz (k + 1) + 2 * cn k from rfl]; rw [show sz (k + 1) = 2 * sz k from rfl]; omega) a hal
    rw [ht2] at v1
    obtain ⟨y2, hy2⟩ : ∃ y, b + sz k + a = y := ⟨_, rfl⟩
    have HY2 := Lib.hid hy2
    rw [hy2] at v0
    have hgz := World.block_lt_of_cell? _ _ v0
    have s1 := (hb4.cell (p := ⟨B1, 1, none⟩) (by simp only; omega)).trans hp1
    have u0 := (hb4.cell (p := ⟨B1 + 1, 0, none⟩) (by simp only; omega)).trans HV3.out.1
    have hz4 := hb4.size
    have hB14 : B1 < w4.heap.size := by omega
    have hB15 : B1 + 1 < w4.heap.size := by omega
    have hla : (a : Int) < ((sz k : Nat) : Int) := by omega
    have hHB := Lib.hid (And.intro HB3.out.size hgV)
    clear hy2 hV hb4 HU4 HU3 HB3 HH hp0 hp1 hp2 hp3 HP3 HV3 hz3 HZ3 hgV ht ht2
    go_upto_region 9 with fail
    have W5u0 : (w4.alloc (Obj.cells #[.int .i64 (y2 : Int), .bool t2] 92)).cell? ⟨B1 + 1, 0, none⟩ = some (.int .i64 (y1 : Int)) := by go_cell
    have W5v0 : (w4.alloc (Obj.cells #[.int .i64 (y2 : Int), .bool t2] 92)).cell? ⟨w4.heap.size, 0, none⟩ = some (.int .i64 (y2 : Int)) := by go_cell
    have W5v1 : (w4.alloc (Obj.cells #[.int .i64 (y2 : Int), .bool t2] 92)).cell? ⟨w4.heap.size, 1, none⟩ = some (.bool t2) := by go_cell
    have hb5 : Below w4.heap.size w4 (w4.alloc (Obj.cells #[.int .i64 (y2 : Int), .bool t2] 92)) := by go_grown
    have hz5 : w4.heap.size < (w4.alloc (Obj.cells #[.int .i64 (y2 : Int), .bool t2] 92)).heap.size := by simp
    have HB5 := Lib.hid (HB4.out.trans (hb5.mono HB4.out.size))
    have HV5 := Lib.hid (own_below' HV4.out hb5)
    clear v0 v1 s1 u0 HV4 hgz hb5
    generalize (w4.alloc (Obj.cells #[.int .i64 (y2 : Int), .bool t2] 92)) = w5 at *
    have hgV5 : gV < w5.heap.size := by omega
    have hB25 : B1 + 1 < w5.heap.size := by omega
    generalize w4.heap.size = B2 at *
    have W8c : (((w5.alloc (Obj.cells #[.int .i64 (y1 : Int)] 3)).alloc (Obj.cells #[.int .i64 (y2 : Int)] 3)).alloc (Obj.cells #[.slice (some ⟨w5.heap.size, 0, none⟩) 1 1, .slice (some ⟨gV, 0, none⟩) (dp k) cV, .slice (some ⟨w5.heap.size + 1, 0, none⟩) 1 1] 28)).cell? ⟨w5.heap.size + 2, 0, none⟩ = some (.slice (some ⟨w5.heap.size, 0, none⟩) 1 1) ∧ (((w5.alloc (Obj.cells #[.int .i64 (y1 : Int)] 3)).alloc (Obj.cells #[.int .i64 (y2 : Int)] 3)).alloc (Obj.cells #[.slice (some ⟨w5.heap.size, 0, none⟩) 1 1, .slice (some ⟨gV, 0, none⟩) (dp k) cV, .slice (some ⟨w5.heap.size + 1, 0, none⟩) 1 1] 28)).cell? ⟨w5.heap.size + 2, 1, none⟩ = some (.slice (some ⟨gV, 0, none⟩) (dp k) cV) ∧ (((w5.alloc (Obj.cells #[.int .i64 (y1 : Int)] 3)).alloc (Obj.cells #[.int .i64 (y2 : Int)] 3)).alloc (Obj.cells #[.slice (some ⟨w5.heap.size, 0, none⟩) 1 1, .slice (some ⟨gV, 0, none⟩) (dp k) cV, .slice (some ⟨w5.heap.size + 1, 0, none⟩) 1 1] 28)).cell? ⟨w5.heap.size + 2, 2, none⟩ = some (.slice (some ⟨w5.heap.size + 1, 0, none⟩) 1 1) ∧ (((w5.alloc (Obj.cells #[.int .i64 (y1 : Int)] 3)).alloc (Obj.cells #[.int .i64 (y2 : Int)] 3)).alloc (Obj.cells #[.slice (some ⟨w5.heap.size, 0, none⟩) 1 1, .slice (some ⟨gV, 0, none⟩) (dp k) cV, .slice (some ⟨w5.heap.size + 1, 0, none⟩) 1 1] 28)).cell? ⟨w5.heap.size, 0, none⟩ = some (.int .i64 (y1 : Int)) ∧ (((w5.alloc (Obj.cells #[.int .i64 (y1 : Int)] 3)).alloc (Obj.cells #[.int .i64 (y2 : Int)] 3)).alloc (Obj.cells #[.slice (some ⟨w5.heap.size, 0, none⟩) 1 1, .slice (some ⟨gV, 0, none⟩) (dp k) cV, .slice (some ⟨w5.heap.size + 1, 0, none⟩) 1 1] 28)).cell? ⟨w5.heap.size + 1, 0, none⟩ = some (.int .i64 (y2 : Int)) := ⟨by go_cell, by go_cell, by go_cell, by go_cell, by go_cell⟩
    have W8b : Below w5.heap.size w5 (((w5.alloc (Obj.cells #[.int .i64 (y1 : Int)] 3)).alloc (Obj.cells #[.int .i64 (y2 : Int)] 3)).alloc (Obj.cells #[.slice (some ⟨w5.heap.size, 0, none⟩) 1 1, .slice (some ⟨gV, 0, none⟩) (dp k) cV, .slice (some ⟨w5.heap.size + 1, 0, none⟩) 1 1] 28)) := by go_grown
    have H8C := Lib.hid W8c
    have H8B := Lib.hid W8b
    clear W8c W8b
    go_wp2_with fail
    obtain ⟨c0, c1, c2, d1, d2⟩ := H8C.out
    have HL := own_below' HV5.out H8B.out
    have hlen : (cellsN (met s k (b + sz (k + 1) + 1 * cn k) x)).length = dp k := by rw [cellsN_len, met_len]
    have hz8 := H8B.out.size
    refine (concat_I 3 (w5.heap.size + 2) 0 3 (f3 w5.heap.size gV (w5.heap.size + 1)) (f3 0 0 0) (f3 1 cV 1) (f3 [.int .i64 (y1 : Int)] (cellsN (met s k (b + sz (k + 1) + 1 * cn k) x)) [.int .i64 (y2 : Int)]) _ (by omega) (by omega) (all3 c0 (by show World.cell? _ _ = some (.slice (some ⟨gV, 0, none⟩) (cellsN (met s k (b + sz (k + 1) + 1 * cn k) x)).length cV); rw [hlen]; exact c1) c2) (all3 (Lst_one d1) (Lst_own HL) (Lst_one d2)) (all3 (by simp [f3, Value.oneCell']) (cellsN_one _) (by simp [f3, Value.oneCell'])) ?_ ?_).mono ?_
    · show 1 ≤ ((([] ++ [Value.int .i64 (y1 : Int)]) ++ cellsN (met s k (b + sz (k + 1) + 1 * cn k) x)) ++ [Value.int .i64 (y2 : Int)]).length
      simp
    · show ((([] ++ [Value.int .i64 (y1 : Int)]) ++ cellsN (met s k (b + sz (k + 1) + 1 * cn k) x)) ++ [Value.int .i64 (y2 : Int)]).length ≤ 1000
      rw [List.length_append, List.length_append, hlen]
      simp [dp]; omega
    have hcat : cat (f3 [Value.int .i64 (y1 : Int)] (cellsN (met s k (b + sz (k + 1) + 1 * cn k) x)) [Value.int .i64 (y2 : Int)]) 3 = cellsN (met s (k + 1) b i) := by
      show (([] ++ [Value.int .i64 (y1 : Int)]) ++ cellsN (met s k (b + sz (k + 1) + 1 * cn k) x)) ++ [Value.int .i64 (y2 : Int)] = _
      rw [HOUT.out.2, HY1.out, HY2.out]
      simp [cellsN]
    rw [hcat, cellsN_len, met_len]
    rintro e w9 ⟨⟨V9, rfl, hV9⟩, hb9⟩
    have x0 := (hb9.cell (p := ⟨B2, 0, none⟩) (by simp only; omega)).trans ((H8B.out.cell (p := ⟨B2, 0, none⟩) (by simp only; omega)).trans W5v0)
    have x1 := (hb9.cell (p := ⟨B2, 1, none⟩) (by simp only; omega)).trans ((H8B.out.cell (p := ⟨B2, 1, none⟩) (by simp only; omega)).trans W5v1)
    have HV9 := Lib.hid (own_weak hV9 (show w.heap.size ≤ _ from Nat.le_trans HB5.out.size hz8))
    have HB9 := Lib.hid (HB5.out.trans ((H8B.out.trans (hb9.mono hz8)).mono HB5.out.size))
    have hz9 := hb9.size
    have hB29 : B2 < w9.heap.size := by omega
    obtain ⟨z, hz⟩ : ∃ z, fl t2 1 = z := ⟨_, rfl⟩
    have HZ := Lib.hid hz
    have hz2 : z < 2 := by rw [← hz]; exact fl_lt (by omega)
    have ha16 : (a : Int) ≤ 16 := by omega
    have hbl := HB9.out
    have hwz := hbl.size
    clear hcat hlen c0 c1 c2 d1 d2 HL W5u0 W5v0 W5v1 hV9 hb9 hz H8C H8B HV5
    go_wp2_with fail
    refine (passed_any _ t2 1 _ (by omega)).mono ?_
    rw [HZ.out]
    rintro e w' ⟨rfl, rfl⟩
    go_wp2_with fail
    refine bodyPost_ret (v := .tuple #[V9, .int .i64 (2 * (a : Int) + (z : Int))]) (by simp [results, Try.results66, go_sem]) rfl ⟨⟨V9, ?_, own_below' HV9.out (by go_grown)⟩, by go_grown⟩
    rw [HOUT.out.1, HZ.out, show ((2 * a + z : Nat) : Int) = 2 * (a : Int) + (z : Int) by omega]
end Go.Proofs.Ytfilofnkiocbeaa
