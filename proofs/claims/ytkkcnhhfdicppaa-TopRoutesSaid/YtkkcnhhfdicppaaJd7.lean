import Derived.Test.YtkkcnhhfdicppaaJc7
import Derived.Test.YtkkcnhhfdicppaaJe7
namespace Lay
theorem usP_no {X Y : Nat → Int} {n : Nat} {k x y : Int} : ∀ {i : Nat}, blkN X Y i x y = false → usP X Y n k i x y = []
  | 0, _ => rfl
  | i + 1, h => by
    simp only [blkN, Bool.or_eq_false_iff, decide_eq_false_iff_not] at h
    simp only [usP]
    rw [usP_no h.1, if_neg h.2]
    rfl
theorem usP_at {X Y : Nat → Int} {n : Nat} {k x y : Int} : ∀ {i j : Nat}, repN X Y i = false → j < i → x = X j → y = Y j → usP X Y n k i x y = [(k, pvN X Y j, wzN X Y n j)]
  | 0, j, _, hj, _, _ => by omega
  | i + 1, j, hr, hj, hx, hy => by
    simp only [repN, Bool.or_eq_false_iff] at hr
    simp only [usP]
    by_cases e : j = i
    · subst e
      rw [hx, hy, usP_no hr.2, if_pos ⟨rfl, rfl⟩]
      rfl
    · rw [usP_at hr.1 (by omega) hx hy, if_neg]
      · rfl
      · rintro ⟨a, b⟩
        have h : blkN X Y i (X i) (Y i) = true := blkN_iff.2 ⟨j, by omega, by omega, by omega⟩
        rw [hr.2] at h
        cases h
/-- How two paths use a cell. -/
theorem us_both {X Y : Nat → Nat → Int} {N : Nat → Nat} {x y : Int} (h0 : repN (X 0) (Y 0) (N 0) = false) (h1 : repN (X 1) (Y 1) (N 1) = false) :
    (blkN (X 0) (Y 0) (N 0) x y = true ∧ blkN (X 1) (Y 1) (N 1) x y = true ∧ ∃ a c b d, usA X Y N 2 x y = [(0, a, c), (1, b, d)]) ∨
    ((blkN (X 0) (Y 0) (N 0) x y && blkN (X 1) (Y 1) (N 1) x y) = false ∧ (usA X Y N 2 x y).length < 2) := by
  simp only [usA, List.nil_append]
  cases e0 : blkN (X 0) (Y 0) (N 0) x y with
  | false =>
    rw [usP_no e0]
    cases e1 : blkN (X 1) (Y 1) (N 1) x y with
    | false => rw [usP_no e1]; exact Or.inr ⟨rfl, by simp⟩
    | true =>
      obtain ⟨j, hj, a, b⟩ := blkN_iff.1 e1
      rw [usP_at h1 hj a b]
      exact Or.inr ⟨rfl, by simp⟩
  | true =>
    obtain ⟨i, hi, a, b⟩ := blkN_iff.1 e0
    rw [usP_at h0 hi a b]
    cases e1 : blkN (X 1) (Y 1) (N 1) x y with
    | false => rw [usP_no e1]; exact Or.inr ⟨rfl, by simp⟩
    | true =>
      obtain ⟨j, hj, c, d⟩ := blkN_iff.1 e1
      rw [usP_at h1 hj c d]
      exact Or.inl ⟨rfl, rfl, _, _, _, _, rfl⟩
/-- The uses of the cells of a grid, in their order. -/
def usJ (X Y : Nat → Nat → Int) (N : Nat → Nat) (Wn j : Nat) : List (Int × Int × Int) := usA X Y N 2 (j % Wn : Nat) (j / Wn : Nat)
def boJ (X Y : Nat → Nat → Int) (N : Nat → Nat) (Wn j : Nat) : Bool := bothT (X 0) (Y 0) (X 1) (Y 1) (N 0) (N 1) Wn j
def arJ (X Y : Nat → Nat → Int) (N : Nat → Nat) (Wn j : Nat) : Bool := arcU ((usJ X Y N Wn j).getD 0 (0, 0, 0)) ((usJ X Y N Wn j).getD 1 (0, 0, 0))
/-- The crossings among the first cells. -/
def csL (X Y : Nat → Nat → Int) (N : Nat → Nat) (Wn : Nat) : Nat → List (Int × Int)
  | 0 => []
  | j + 1 => csL X Y N Wn j ++ if boJ X Y N Wn j = true then [(((j % Wn : Nat) : Int), ((j / Wn : Nat) : Int))] else []
theorem csL_len (X Y : Nat → Nat → Int) (N : Nat → Nat) (Wn : Nat) : ∀ j, ((csL X Y N Wn j).length : Int) = sm (fun j => if boJ X Y N Wn j = true then 1 else 0) j
  | 0 => rfl
  | j + 1 => by
    simp only [csL, sm, List.length_append]
    rw [Int.natCast_add, csL_len X Y N Wn j]
    split <;> simp
theorem csL_le (X Y : Nat → Nat → Int) (N : Nat → Nat) (Wn : Nat) : ∀ j, (csL X Y N Wn j).length ≤ j
  | 0 => Nat.le_refl _
  | j + 1 => by
    have := csL_le X Y N Wn j
    simp only [csL, List.length_append]
    split <;> simp <;> omega
def crC (l : List (Int × Int)) : List Go.Value := l.flatMap fun c => [.int .i64 c.1, .int .i64 c.2, .int .i64 0, .int .i64 1]
theorem crC_snoc (l : List (Int × Int)) (c : Int × Int) : crC (l ++ [c]) = crC l ++ [.int .i64 c.1, .int .i64 c.2, .int .i64 0, .int .i64 1] := by unfold crC; simp
end Lay
namespace Go.Proofs.Ytkkcnhhfdicppaa
open Go.RowKit Lay
theorem cros_info : (Try.prog.info? 95 ).map (fun i => (i.zero, i.size, i.bytes)) = some (some (.agg #[.int .i64 0, .int .i64 0, .int .i64 0, .int .i64 0]), 4, 32) := by kernel_rfl
/-- The row of a cell that two paths use. -/
theorem us_row {w : World} {b : Nat} {v : Value} {x0 y0 z0 x1 y1 z1 : Int} (h : w.ownsRow b 118 3 v 2 (useC [(x0, y0, z0), (x1, y1, z1)])) : ∃ g cap, v = .slice (some ⟨g, 0, none⟩) 2 cap ∧ b ≤ g ∧ UsAt w g 0 x0 y0 z0 ∧ UsAt w g 3 x1 y1 z1 := by
  obtain ⟨_, ⟨_, hn⟩ | ⟨g, cap, cur, rfl, hbg, hg, _, _, _, ht⟩⟩ := h
  · omega
  · have key : ∀ j u, j < 6 → (useC [(x0, y0, z0), (x1, y1, z1)])[j]? = some u → w.cell? ⟨g, j, none⟩ = some u := fun j u hj hu => by
      refine cell_of_blk hg ?_
      rw [← ht, List.getElem?_take_of_lt (by omega), Array.getElem?_toList] at hu
      exact hu
    exact ⟨g, cap, rfl, hbg, ⟨key 0 _ (by omega) rfl, key 1 _ (by omega) rfl, key 2 _ (by omega) rfl⟩, key 3 _ (by omega) rfl, key 4 _ (by omega) rfl, key 5 _ (by omega) rfl⟩
theorem row_len {w : World} {b n : Nat} {v : Value} {xs : List Value} (h : w.ownsRow b 118 3 v n xs) : ∃ ao cap, v = .slice ao n cap := by
  obtain ⟨_, ⟨rfl, rfl⟩ | ⟨g, cap, cur, rfl, _⟩⟩ := h
  · exact ⟨_, _, rfl⟩
  · exact ⟨_, _, rfl⟩
set_option maxRecDepth 100000 in
set_option maxHeartbeats 32000000 in
theorem crossingsOf_no (Wn Hn : Int) (M B : Int) (nb cb : Nat) (ao : Option Addr) (XB YB : Nat → Int) (cq : Nat) (sa : Option Addr) (A : Nat → Option Addr) (N C : Nat → Nat) (X Y : Nat → Nat → Int) (w : World) (E : Int) (hE : rdE (vaG Wn Hn M B nb XB YB) 2 (erN (fun j => chE Wn Hn (blkN XB YB nb) (X j) (Y j) (N j)) 2) = E) (hne : E ≠ 0)
    (hn : nb ≤ 9223372036854775807) (hc : XYs w ao nb XB YB) (hp : PSl w sa 2 A N C X Y) (hN : ∀ j, j < 2 → N j ≤ 1000000 ∧ R2 (X j) (Y j) (N j)) :
    Calls Try.prog 60 #[.agg #[.int .i64 Wn, .int .i64 Hn, .int .i64 M, .int .i64 B, .slice ao nb cb], .slice sa 2 cq] w fun e w' => e = .returned (.tuple #[.slice none 0 0, .int .i64 E]) ∧ Below w.heap.size w w' := by
  have HC := Lib.hid hc
  have HP := Lib.hid hp
  have HN := Lib.hid hN
  clear hc hp hN
  have HE := Lib.hid hE
  clear hE
  go_enter Try.func60, Try.ntmps60
  go_wp2_with fail
  refine (readPaths_no Wn Hn M B nb cb ao XB YB 2 cq sa A N C X Y _ E HE.out hne hn (HC.out.keep (by go_grown)) (by omega) (HP.out.keep (by go_grown)) HN.out).mono ?_
  rintro e w1 ⟨rfl, hb⟩
  have hbl : Below w.heap.size w w1 := Below.trans (by go_grown) (hb.mono (by simp))
  have hsz := hbl.size
  clear hb
  go_wp2_with fail
  refine bodyPost_ret (v := .tuple #[.slice none 0 0, .int .i64 E]) (by simp [results, Try.results60, go_sem]) rfl ⟨rfl, by go_grown⟩
set_option maxRecDepth 100000 in
set_option maxHeartbeats 32000000 in
theorem crossingsOf_ok (Wn Hn : Nat) (M B : Int) (nb cb : Nat) (ao : Option Addr) (XB YB : Nat → Int) (cq : Nat) (sa : Option Addr) (A : Nat → Option Addr) (N C : Nat → Nat) (X Y : Nat → Nat → Int) (w : World) (hv : vaG Wn Hn M B nb XB YB = true) (hE : erN (fun j => chE Wn Hn (blkN XB YB nb) (X j) (Y j) (N j)) 2 = 0)
    (hn : nb ≤ 9223372036854775807) (hc : XYs w ao nb XB YB) (hp : PSl w sa 2 A N C X Y) (hN : ∀ j, j < 2 → N j ≤ 1000000 ∧ R2 (X j) (Y j) (N j)) :
    Calls Try.prog 60 #[.agg #[.int .i64 Wn, .int .i64 Hn, .int .i64 M, .int .i64 B, .slice ao nb cb], .slice sa 2 cq] w fun e w' => (e = .returned (.tuple #[.slice none 0 0, .int .i64 73]) ∧ (∃ j, j < Hn * Wn ∧ boJ X Y N Wn j = true ∧ arJ X Y N Wn j = false) ∧ Below w.heap.size w w') ∨ ∃ v, e = .returned (.tuple #[v, .int .i64 0]) ∧ (∀ j, j < Hn * Wn → boJ X Y N Wn j = true → arJ X Y N Wn j = true) ∧ w'.ownsRow w.heap.size 95 4 v (csL X Y N Wn (Hn * Wn)).length (crC (csL X Y N Wn (Hn * Wn))) ∧ Below w.heap.size w w' := by
  have HC := Lib.hid hc
  have HP := Lib.hid hp
  have HN := Lib.hid hN
  clear hc hp hN
  obtain ⟨i0, hi, hi0, hi1, hi2⟩ := info_parts cros_info
  have HI := Lib.hid (And.intro hi (And.intro hi0 (And.intro hi1 hi2)))
  clear hi hi0 hi1 hi2
  have HV := Lib.hid hv
  have HE := Lib.hid hE
  obtain ⟨hnum, _⟩ := vaG_num hv
  have HCH : Hid (∀ j, j < 2 → chE Wn Hn (blkN XB YB nb) (X j) (Y j) (N j) = 0) := Lib.hid (fun j hj => erN_get (E := fun j => chE Wn Hn (blkN XB YB nb) (X j) (Y j) (N j)) hE hj)
  have HR : Hid (∀ j, j < 2 → 1 ≤ N j ∧ N j ≤ 1000 ∧ repN (X j) (Y j) (N j) = false) := Lib.hid (fun j hj => by
    have h := paB_iff.1 (chE_ok.1 (HCH.out j hj)).1
    exact ⟨h.1.1, h.1.2, repN_iff.2 h.2.1⟩)
  have hN9 : Hn * Wn ≤ 900 := Nat.le_trans (Nat.mul_le_mul (show Hn ≤ 30 by omega) (show Wn ≤ 30 by omega)) (by decide)
  have hH9 : Hn ≤ 30 := by omega
  have hW9 : Wn ≤ 30 := by omega
  clear hv hE hnum
  go_enter Try.func60, Try.ntmps60
  go_wp2_with fail
  refine (readPaths_ok Wn Hn M B nb cb ao XB YB 2 cq sa A N C X Y _ HV.out (by omega) HE.out hn (HC.out.keep (by go_grown)) (by omega) (HP.out.keep (by go_grown)) HN.out).mono ?_
  rintro e w1 ⟨m, rfl, hm1, hbm, hb⟩
  have HB1 : Hid (Below w.heap.size w w1) := Lib.hid (Below.trans (by go_grown) (hb.mono (by simp)))
  have hz1 : w.heap.size < w1.heap.size := by have := hb.size; simp at this; omega
  clear hb hbm hm1
  obtain ⟨b6, hb6⟩ : ∃ z, z = w1.heap.size := ⟨_, rfl⟩
  obtain ⟨w2, hw2⟩ : ∃ z, z = w1.alloc (.cells #[.int .i64 Wn, .int .i64 Hn, .int .i64 M, .int .i64 B, .slice ao nb cb, .map (some m)] 68) := ⟨_, rfl⟩
  have hc12 : Below w1.heap.size w1 w2 := by rw [hw2]; exact bal (Below.refl _ _) _
  have KB2 : Hid (w2.heap[b6]? = some (.cells #[.int .i64 Wn, .int .i64 Hn, .int .i64 M, .int .i64 B, .slice ao nb cb, .map (some m)] 68 (0, 0))) := Lib.hid (by rw [hw2, hb6]; exact heap_alloc_new w1 _)
  have HB2 : Hid (Below w.heap.size w w2) := Lib.hid (HB1.out.trans (hc12.mono (by omega)))
  have hz2 : b6 < w2.heap.size := by rw [hw2, hb6]; simp
  have hwb : w.heap.size < b6 := by omega
  have HW2 := Lib.hid hw2
  have HB6 := Lib.hid hb6
  clear hc12 HB1 hw2 hb6
  go_upto_region 4 with fail
  rw [← HW2.out]
  try rw [← HB6.out]
  clear HW2 HB6
  go_wp2_with fail
  refine (usesOf_any 2 cq sa A N C X Y _ (by omega) (HP.out.keep HB2.out) (fun j hj => ⟨(HR.out j hj).1, (HR.out j hj).2.1, (HN.out j hj).2⟩)).mono ?_
  rintro e w3 ⟨b8, rfl, hb8, hU, hb⟩
  have HU3 := Lib.hid hU
  have KB3 : Hid (w3.heap[b6]? = some (.cells #[.int .i64 Wn, .int .i64 Hn, .int .i64 M, .int .i64 B, .slice ao nb cb, .map (some m)] 68 (0, 0))) := Lib.hid ((hb.block _ hz2).trans KB2.out)
  have HB3 : Hid (Below w.heap.size w w3) := Lib.hid (HB2.out.trans (hb.mono (by omega)))
  have hz3 : b8 < w3.heap.size := hU.lt
  have h68 : b6 < b8 := by omega
  clear hU hb hb8 KB2 HB2 hz2
  obtain ⟨q0, q1, q2, q3, q4, q5⟩ : w3.cell? ⟨b6, 0, none⟩ = some (.int .i64 Wn) ∧ w3.cell? ⟨b6, 1, none⟩ = some (.int .i64 Hn) ∧ w3.cell? ⟨b6, 2, none⟩ = some (.int .i64 M) ∧ w3.cell? ⟨b6, 3, none⟩ = some (.int .i64 B) ∧ w3.cell? ⟨b6, 4, none⟩ = some (.slice ao nb cb) ∧ w3.cell? ⟨b6, 5, none⟩ = some (.map (some m)) := ⟨cell_of_blk KB3.out rfl, cell_of_blk KB3.out rfl, cell_of_blk KB3.out rfl, cell_of_blk KB3.out rfl, cell_of_blk KB3.out rfl, cell_of_blk KB3.out rfl⟩
  go_wp2_with fail
  refine (cells_any M B Wn Hn nb cb m ao _ hW9 hH9).mono ?_
  rintro e w4 ⟨vc, rfl, hown, hb⟩
  obtain ⟨NN, hNN⟩ : ∃ z, z = Hn * Wn := ⟨_, rfl⟩
  rw [← hNN] at hN9 hown
  have HNN := Lib.hid hNN
  clear hNN
  have HU4 := Lib.hid (HU3.out.keep hb)
  have HB4 : Hid (Below w.heap.size w w4) := Lib.hid (HB3.out.trans (hb.mono (by omega)))
  obtain ⟨ac, cc, rfl, hxy⟩ := own_xys hown (clL_len _ _)
  have HXC := Lib.hid hxy
  have hz4 : w3.heap.size ≤ w4.heap.size := hb.size
  obtain ⟨b9, hb9⟩ : ∃ z, z = w4.heap.size := ⟨_, rfl⟩
  have h84 : b8 < b9 := by omega
  have HB9 := Lib.hid hb9
  clear hown hb hxy q0 q1 q2 q3 q4 q5 KB3 HB3 HU3 hz3
  go_wp2_with fail
  go_loopg [9, 26] NN (fun gg v9 v26 wr => ∃ j : Nat, v26 = .int .i64 j ∧ j ≤ NN ∧ Hid (NN - j ≤ gg) ∧ Hid (∀ i, i < j → boJ X Y N Wn i = true → arJ X Y N Wn i = true) ∧ Hid (wr.ownsRow w4.heap.size 95 4 v9 (csL X Y N Wn j).length (crC (csL X Y N Wn j))) ∧ Hid (Below w4.heap.size w4 wr))
  case atStart => exact ⟨0, rfl, Nat.zero_le _, Lib.hid (Nat.le_refl _), Lib.hid (fun i h => by omega), Lib.hid (World.ownsRow_nil _ _ _ _), Lib.hid (Below.refl _ _)⟩
  case round =>
    obtain ⟨j, rfl, hj, HG, HA, HO, HB⟩ := hrel
    have HGG : Hid (NN - j ≤ gk) := Lib.hid HG.out
    clear HG
    have hz := HB.out.size
    by_cases hlt : j < NN
    case neg =>
      obtain rfl : NN = j := by omega
      go_wp2_with fail
      refine bodyPost_ret (v := .tuple #[u9, .int .i64 0]) (by simp [results, Try.results60, go_sem, *]) rfl (Or.inr ⟨u9, rfl, (by have h := HA.out; rw [HNN.out] at h; exact h), ownsRow_base (by have h := HO.out; rw [HNN.out] at h; exact h) (by have := HB4.out.size; omega), HB4.out.trans (HB.out.mono (by have := HB4.out.size; omega))⟩)
    obtain ⟨bc, oc, hce, hcell⟩ := (HXC.out.keep HB.out) (by omega)
    subst hce
    obtain ⟨x0, x1⟩ := hcell j hlt
    have h0 := clL_get (Wn := Wn) (k := NN) (j := j) hlt
    simp only [h0] at x0 x1
    clear h0
    obtain ⟨x, hx⟩ : ∃ z : Int, z = ((j % Wn : Nat) : Int) := ⟨_, rfl⟩
    obtain ⟨y, hy⟩ : ∃ z : Int, z = ((j / Wn : Nat) : Int) := ⟨_, rfl⟩
    have hxb : 0 ≤ x ∧ x ≤ 900 := by have h := Nat.mod_le j Wn; rw [hx]; generalize j % Wn = q at *; omega
    have hyb : 0 ≤ y ∧ y ≤ 900 := by have h := Nat.div_le_self j Wn; rw [hy]; generalize j / Wn = q at *; omega
    simp only [← hx, ← hy] at x0 x1
    obtain ⟨wq, hwq⟩ : ∃ z, z = wr.alloc (.cells #[.int .i64 x, .int .i64 y] 26) := ⟨_, rfl⟩
    obtain ⟨bq, hbq⟩ : ∃ z, z = wr.heap.size := ⟨_, rfl⟩
    have hcq : Below wr.heap.size wr wq := by rw [hwq]; exact bal (Below.refl _ _) _
    have KQ : Hid (wq.heap[bq]? = some (.cells #[.int .i64 x, .int .i64 y] 26 (0, 0))) := Lib.hid (by rw [hwq, hbq]; exact heap_alloc_new wr _)
    have hsq : wq.heap.size = bq + 1 := by rw [hwq]; simp; omega
    have HOq := Lib.hid (own_below' HO.out hcq)
    have HBq : Hid (Below w4.heap.size w4 wq) := Lib.hid (HB.out.trans (hcq.mono hz))
    have hqz : w4.heap.size ≤ bq := by omega
    obtain ⟨G, g0, g2, _, _⟩ := HU4.out
    have g1 : UMap wq b8 12000 G := g0.keep (HBq.out.block _ g0.lt)
    have hl := g1.look useK hd_ok (wf7 (x := x) (by omega) (by omega)) (wf7 (x := y) (by omega) (by omega))
    have hrow := g2 x y
    have HGM := Lib.hid g1
    have HLT : Hid (∀ i, u9.ownBlock = some i → w4.heap.size ≤ i ∧ i < bq) := Lib.hid (fun i hi => by have := HO.out.lt i hi; omega)
    have HXYJ := Lib.hid (And.intro hx hy)
    have HWQ := Lib.hid hwq
    have HBQ := Lib.hid hbq
    clear hcell hcq HO HB hwq hbq g2 g1 g0 hx hy
    go_upto_region 9 with fail
    rw [← HBQ.out, ← HWQ.out]
    clear HBQ HWQ x0 x1
    obtain ⟨x0, x1⟩ : wq.cell? ⟨bq, 0, none⟩ = some (.int .i64 x) ∧ wq.cell? ⟨bq, 1, none⟩ = some (.int .i64 y) := ⟨cell_of_blk KQ.out rfl, cell_of_blk KQ.out rfl⟩
    rcases us_both (x := x) (y := y) (HR.out 0 (by omega)).2.2 (HR.out 1 (by omega)).2.2 with ⟨e0, e1, a, c, b, d, hus⟩ | ⟨hno, hfew⟩
    case inr =>
      have hJ : boJ X Y N Wn j = false := by unfold boJ bothT; rw [← HXYJ.out.1, ← HXYJ.out.2]; exact hno
      obtain ⟨ag, cg, hv⟩ := row_len hrow
      obtain ⟨ng, hng⟩ : ∃ z, (usA X Y N 2 x y).length = z := ⟨_, rfl⟩
      rw [hng] at hv hfew
      rw [hv] at hl
      have hfew' : (ng : Int) < 2 := by omega
      clear hrow hng hv hno hfew
      go_wp2_with fail
      go_roundg (NN - (j + 1))
      case measure => have := HGG.out; omega
      case rel =>
        refine ⟨j + 1, by go_num, by omega, Lib.hid (Nat.le_refl _), Lib.hid (fun i hi hb => ?_), Lib.hid ?_, HBq⟩
        · by_cases hij : i = j
          · subst hij; rw [hJ] at hb; cases hb
          · exact HA.out i (by omega) hb
        · have h := HOq.out
          simp only [csL, hJ, Bool.false_eq_true, if_false, List.append_nil]
          exact h
    have hJ : boJ X Y N Wn j = true := by unfold boJ bothT; rw [← HXYJ.out.1, ← HXYJ.out.2, e0, e1]; rfl
    rw [hus] at hrow
    obtain ⟨g, cg, hv, hgb, u0, u1⟩ := us_row hrow
    have hgl : g < w4.heap.size := World.block_lt_of_cell? _ _ u0.1
    have HU0 := Lib.hid (u0.keep HBq.out)
    have HU1 := Lib.hid (u1.keep HBq.out)
    rw [hv] at hl
    have hv9 := Lib.hid hv
    have g9 : b8 < w4.heap.size := by omega
    clear hrow hv hgb u0 u1 e0 e1
    have hus' : usJ X Y N Wn j = [(0, a, c), (1, b, d)] := by unfold usJ; rw [← HXYJ.out.1, ← HXYJ.out.2]; exact hus
    have hAJ : arJ X Y N Wn j = arcU (0, a, c) (1, b, d) := by unfold arJ; rw [hus']; rfl
    have HAJ := Lib.hid hAJ
    have HJ := Lib.hid hJ
    clear hus hus' hAJ hJ
    go_wp2_with fail
    refine (areCross_any g cg 0 a c 1 b d _ HU0.out HU1.out).mono ?_
    obtain ⟨ar, har⟩ : ∃ z, arcU (0, a, c) (1, b, d) = z := ⟨_, rfl⟩
    rw [har] at HAJ ⊢
    clear har
    rintro e wB ⟨rfl, hb⟩
    have HBB : Hid (Below w4.heap.size w4 wB) := Lib.hid (HBq.out.trans (hb.mono (by omega)))
    have KQB : Hid (wB.heap[bq]? = some (.cells #[.int .i64 x, .int .i64 y] 26 (0, 0))) := Lib.hid ((hb.block _ (by omega)).trans KQ.out)
    have HGB : Hid (UMap wB b8 12000 G) := Lib.hid (HGM.out.keep (hb.block _ HGM.out.lt))
    have HOB := Lib.hid (own_below' HOq.out hb)
    have hsB : bq < wB.heap.size := by have := hb.size; omega
    have HU0B := Lib.hid (HU0.out.keep hb)
    have HU1B := Lib.hid (HU1.out.keep hb)
    clear hb HBq KQ HGM HOq HU0 HU1 hl x0 x1
    have hl := HGB.out.look useK hd_ok (wf7 (x := x) (by omega) (by omega)) (wf7 (x := y) (by omega) (by omega))
    rw [hv9.out] at hl
    cases ar with
    | false =>
      go_wp2_with fail
      refine bodyPost_ret (v := .tuple #[.slice none 0 0, .int .i64 73]) (by simp [results, Try.results60, go_sem]) rfl (Or.inl ⟨rfl, ⟨j, by rw [← HNN.out]; exact hlt, HJ.out, HAJ.out⟩, HB4.out.trans (HBB.out.mono HB4.out.size)⟩)
    | true =>
    have hl2 : (csL X Y N Wn j).length ≤ 900 := Nat.le_trans (csL_le X Y N Wn j) (by omega)
    have hb8B := HGB.out.lt
    have G0 : Hid (∀ w' : World, w'.heap[bq]? = wB.heap[bq]? → w'.heap[b8]? = wB.heap[b8]? → w'.heap[g]? = wB.heap[g]? → XyAt w' bq 0 x y ∧ (Instr.lookup 113 (.map (some b8)) (xyV x y) false).run Try.prog w' = .ok (.slice (some ⟨g, 0, none⟩) 2 cg) w' ∧ UsAt w' g 0 0 a c ∧ UsAt w' g 3 1 b d) := Lib.hid (fun w' k1 k2 k3 => by
      refine ⟨⟨cell_of_blk (k1.trans KQB.out) rfl, cell_of_blk (k1.trans KQB.out) rfl⟩, ?_, ?_, ?_⟩
      · have h := (HGB.out.keep k2).look useK hd_ok (wf7 (x := x) (by omega) (by omega)) (wf7 (x := y) (by omega) (by omega))
        rw [hv9.out] at h
        exact h
      · obtain ⟨h0, h1, h2⟩ := HU0B.out
        exact ⟨(World.cell?_of_block k3).trans h0, (World.cell?_of_block k3).trans h1, (World.cell?_of_block k3).trans h2⟩
      · obtain ⟨h0, h1, h2⟩ := HU1B.out
        exact ⟨(World.cell?_of_block k3).trans h0, (World.cell?_of_block k3).trans h1, (World.cell?_of_block k3).trans h2⟩)
    have hgB : g < wB.heap.size := by omega
    clear hl KQB HU0B HU1B
    go_upto_region 12 with fail

    refine wp_region_held_drew (S := fun w' => XyAt w' bq 0 x y ∧ (Instr.lookup 113 (.map (some b8)) (xyV x y) false).run Try.prog w' = .ok (.slice (some ⟨g, 0, none⟩) 2 cg) w' ∧ UsAt w' g 0 0 a c ∧ UsAt w' g 3 1 b d) (by kernel_rfl) (G0.out _ rfl rfl rfl) (fun hHeld => ?_)
    refine wpAnyH_take (i := 0) (oi := _) (v := ?_) rfl (by kernel_rfl) (by kernel_rfl) (by kernel_rfl) (fun _ _ _ h => h) (Or.inl ⟨by rfl, ?_⟩) (by assumption) ?_
    rotate_left
    · intro w hSw; obtain ⟨⟨s0, s1⟩, s2, ⟨s3, s4, s5⟩, s6, s7, s8⟩ := hSw; go_simp; (try with_reducible rfl)
    try change wpAnyH _ _ _ _ _ _ _ (Act.put _ (some 40) _) _
    try simp only [act_all]
    refine wpAnyH_take (i := 1) (oi := _) (v := _) rfl (by kernel_rfl) (by kernel_rfl) (by kernel_rfl) (fun _ _ _ h => h) (yieldsIf_load_mid (by rfl) 26 _ rfl bq _ rfl ([.int .i64 x, .int .i64 y]) _ (fun w' hh => by simpa using range_xy hh.1) Try.underlying26 rfl (by kernel_rfl)) (by assumption) ?_
    try change wpAnyH _ _ _ _ _ _ _ (Act.put _ (some 41) _) _
    try simp only [act_all]
    refine wpAnyH_take (i := 2) (oi := _) (v := ?_) rfl (by kernel_rfl) (by kernel_rfl) (by kernel_rfl) (fun _ _ _ h => h) (Or.inl ⟨by rfl, ?_⟩) (by assumption) ?_
    rotate_left
    · intro w hSw; obtain ⟨⟨s0, s1⟩, s2, ⟨s3, s4, s5⟩, s6, s7, s8⟩ := hSw; go_simp; (try with_reducible rfl)
    try change wpAnyH _ _ _ _ _ _ _ (Act.put _ (some 42) _) _
    try simp only [act_all]
    refine wpAnyH_take (i := 3) (oi := _) (v := _) rfl (by kernel_rfl) (by kernel_rfl) (by kernel_rfl) (fun _ _ _ h => h) (yieldsIf_load_mid (by rfl) 26 _ rfl bq _ rfl ([.int .i64 x, .int .i64 y]) _ (fun w' hh => by simpa using range_xy hh.1) Try.underlying26 rfl (by kernel_rfl)) (by assumption) ?_
    try change wpAnyH _ _ _ _ _ _ _ (Act.put _ (some 43) _) _
    try simp only [act_all]
    refine wpAnyH_take (i := 4) (oi := _) (v := ?_) rfl (by kernel_rfl) (by kernel_rfl) (by kernel_rfl) (fun _ _ _ h => h) (Or.inl ⟨by rfl, ?_⟩) (by assumption) ?_
    rotate_left
    · intro w hSw; obtain ⟨⟨s0, s1⟩, s2, ⟨s3, s4, s5⟩, s6, s7, s8⟩ := hSw; go_simp; (try with_reducible rfl)
    try change wpAnyH _ _ _ _ _ _ _ (Act.put _ (some 44) _) _
    try simp only [act_all]
    refine wpAnyH_take (i := 5) (oi := _) (v := ?_) rfl (by kernel_rfl) (by kernel_rfl) (by kernel_rfl) (fun _ _ _ h => h) (Or.inl ⟨by rfl, ?_⟩) (by assumption) ?_
    rotate_left
    · intro w hSw; obtain ⟨⟨s0, s1⟩, s2, ⟨s3, s4, s5⟩, s6, s7, s8⟩ := hSw; go_simp; (try with_reducible rfl)
    try change wpAnyH _ _ _ _ _ _ _ (Act.put _ (some 45) _) _
    try simp only [act_all]
    refine wpAnyH_take (i := 6) (oi := _) (v := ?_) rfl (by kernel_rfl) (by kernel_rfl) (by kernel_rfl) (fun _ _ _ h => h) (Or.inl ⟨by rfl, ?_⟩) (by assumption) ?_
    rotate_left
    · intro w hSw; obtain ⟨⟨s0, s1⟩, s2, ⟨s3, s4, s5⟩, s6, s7, s8⟩ := hSw; go_simp; (try with_reducible rfl)
    try change wpAnyH _ _ _ _ _ _ _ (Act.put _ (some 46) _) _
    try simp only [act_all]
    refine wpAnyH_take (i := 7) (oi := _) (v := ?_) rfl (by kernel_rfl) (by kernel_rfl) (by kernel_rfl) (fun _ _ _ h => h) (Or.inl ⟨by rfl, ?_⟩) (by assumption) ?_
    rotate_left
    · intro w hSw; obtain ⟨⟨s0, s1⟩, s2, ⟨s3, s4, s5⟩, s6, s7, s8⟩ := hSw; go_simp; (try with_reducible rfl)
    try change wpAnyH _ _ _ _ _ _ _ (Act.put _ (some 47) _) _
    try simp only [act_all]
    refine wpAnyH_take (i := 8) (oi := _) (v := ?_) rfl (by kernel_rfl) (by kernel_rfl) (by kernel_rfl) (fun _ _ _ h => h) (Or.inl ⟨by rfl, ?_⟩) (by assumption) ?_
    rotate_left
    · intro w hSw; obtain ⟨⟨s0, s1⟩, s2, ⟨s3, s4, s5⟩, s6, s7, s8⟩ := hSw; go_simp; (try with_reducible rfl)
    try change wpAnyH _ _ _ _ _ _ _ (Act.put _ (some 48) _) _
    try simp only [act_all]
    refine wpAnyH_take (i := 9) (oi := _) (v := _) rfl (by kernel_rfl) (by kernel_rfl) (by kernel_rfl) (fun _ _ _ h => h) (yieldsIf_load_mid (by rfl) 26 _ rfl bq _ rfl ([.int .i64 x, .int .i64 y]) _ (fun w' hh => by simpa using range_xy hh.1) Try.underlying26 rfl (by kernel_rfl)) (by assumption) ?_
    try change wpAnyH _ _ _ _ _ _ _ (Act.put _ (some 49) _) _
    try simp only [act_all]
    refine wpAnyH_take (i := 10) (oi := _) (v := ?_) rfl (by kernel_rfl) (by kernel_rfl) (by kernel_rfl) (fun _ _ _ h => h) (Or.inl ⟨by rfl, ?_⟩) (by assumption) ?_
    rotate_left
    · intro w hSw; obtain ⟨⟨s0, s1⟩, s2, ⟨s3, s4, s5⟩, s6, s7, s8⟩ := hSw; go_simp; (try with_reducible rfl)
    try change wpAnyH _ _ _ _ _ _ _ (Act.put _ (some 50) _) _
    try simp only [act_all]
    refine wpAnyH_take (i := 11) (oi := _) (v := ?_) rfl (by kernel_rfl) (by kernel_rfl) (by kernel_rfl) (fun _ _ _ h => h) (Or.inl ⟨by rfl, ?_⟩) (by assumption) ?_
    rotate_left
    · intro w hSw; obtain ⟨⟨s0, s1⟩, s2, ⟨s3, s4, s5⟩, s6, s7, s8⟩ := hSw; go_simp; (try with_reducible rfl)
    try change wpAnyH _ _ _ _ _ _ _ (Act.put _ (some 51) _) _
    try simp only [act_all]
    refine wpAnyH_take (i := 12) (oi := _) (v := ?_) rfl (by kernel_rfl) (by kernel_rfl) (by kernel_rfl) (fun _ _ _ h => h) (Or.inl ⟨by rfl, ?_⟩) (by assumption) ?_
    rotate_left
    · intro w hSw; obtain ⟨⟨s0, s1⟩, s2, ⟨s3, s4, s5⟩, s6, s7, s8⟩ := hSw; go_simp; (try with_reducible rfl)
    try change wpAnyH _ _ _ _ _ _ _ (Act.put _ (some 52) _) _
    try simp only [act_all]
    refine wpAnyH_take (i := 13) (oi := _) (v := ?_) rfl (by kernel_rfl) (by kernel_rfl) (by kernel_rfl) (fun _ _ _ h => h) (Or.inl ⟨by rfl, ?_⟩) (by assumption) ?_
    rotate_left
    · intro w hSw; obtain ⟨⟨s0, s1⟩, s2, ⟨s3, s4, s5⟩, s6, s7, s8⟩ := hSw; go_simp; (try with_reducible rfl)
    try change wpAnyH _ _ _ _ _ _ _ (Act.put _ (some 53) _) _
    try simp only [act_all]
    refine wpAnyH_take (i := 14) (oi := _) (v := ?_) rfl (by kernel_rfl) (by kernel_rfl) (by kernel_rfl) (fun _ _ _ h => h) (Or.inl ⟨by rfl, ?_⟩) (by assumption) ?_
    rotate_left
    · intro w hSw; obtain ⟨⟨s0, s1⟩, s2, ⟨s3, s4, s5⟩, s6, s7, s8⟩ := hSw; go_simp; (try with_reducible rfl)
    try change wpAnyH _ _ _ _ _ _ _ (Act.put _ (some 54) _) _
    try simp only [act_all]
    refine wpAnyH_take (i := 15) (oi := _) (v := ?_) rfl (by kernel_rfl) (by kernel_rfl) (by kernel_rfl) (fun _ _ _ h => h) (Or.inl ⟨by rfl, ?_⟩) (by assumption) ?_
    rotate_left
    · intro w hSw; obtain ⟨⟨s0, s1⟩, s2, ⟨s3, s4, s5⟩, s6, s7, s8⟩ := hSw; go_simp; (try with_reducible rfl)
    try change wpAnyH _ _ _ _ _ _ _ (Act.put _ (some 55) _) _
    try simp only [act_all]
    refine wpAnyH_ready (rs := [16]) (by kernel_rfl) (by simp) ?_
    refine AllReadyH.cons (o := _) rfl (fun K hK => ?_) AllReadyH.nil
    go_simp
    obtain ⟨wC, hwC⟩ : ∃ z, z = (wB.alloc (.cells #[.int .i64 x, .int .i64 y, .int .i64 0, .int .i64 1] 95)).drew := ⟨_, rfl⟩
    have hNB : wC.heap[wB.heap.size]? = some (.cells #[.int .i64 x, .int .i64 y, .int .i64 0, .int .i64 1] 95 (0, 0)) := by rw [hwC]; exact heap_alloc_new wB _
    have hbC : Below wB.heap.size wB wC := by rw [hwC]; exact ((Below.refl _ _).alloc (Nat.le_refl _) _).drew
    have HOC := own_below' HOB.out hbC
    have hsC : wC.heap.size = wB.heap.size + 1 := by rw [hwC]; show (wB.alloc _).heap.size = _; simp
    rw [← hwC]
    clear hHeld hwC
    refine hK.out _ _ (G0.out _ (hbC.block _ hsB) (hbC.block _ hb8B) (hbC.block _ hgB)) (fun hHeld => ?_)
    clear hK K
    try simp only [act_all]
    refine wpAnyH_ready (rs := [17]) (by kernel_rfl) (by simp) ?_
    refine AllReadyH.cons (o := _) rfl (fun K hK => ?_) AllReadyH.nil
    refine step_append_lies _ (by rfl) _ _ 90 (by rfl) w4.heap.size 95 i0 _ 4 32 Try.underlying90 HI.out.1 HI.out.2.1 HI.out.2.2.1 HI.out.2.2.2 (by rfl) (by decide) u9 _ (crC (csL X Y N Wn j)) (by rfl) HOC ⟨wB.heap.size, 0, none⟩ 1 1 [.int .i64 x, .int .i64 y, .int .i64 0, .int .i64 1] (by rfl) rfl (fun j u hu => World.news_of_block (cs := #[.int .i64 x, .int .i64 y, .int .i64 0, .int .i64 1]) hNB j u hu) (by intro u hu; simp only [List.mem_cons, List.not_mem_nil, or_false] at hu; rcases hu with rfl | rfl | rfl | rfl <;> rfl) (by omega) (by unfold maxLen; omega) (by omega) (by omega) _ rfl ?_
    intro gl cm w9 hown9 hgrow9 hor9 hlg9
    have hsz9 := hgrow9.size
    have HB9 : Hid (Below w4.heap.size w4 w9) := Lib.hid ((HBB.out.trans (hbC.mono (by omega))).grown hgrow9 (by omega) (fun q hq => (HLT.out q hq).1))
    have HO9 : Hid (w9.ownsRow w4.heap.size 95 4 (.slice (some ⟨gl, 0, none⟩) ((csL X Y N Wn j).length + 1) cm) (csL X Y N Wn (j + 1)).length (crC (csL X Y N Wn (j + 1)))) := Lib.hid (by simp only [csL, HJ.out, if_true]; rw [crC_snoc, List.length_append, ← HXYJ.out.1, ← HXYJ.out.2]; exact hown9)
    have hl1 : w9.heap[bq]? = wB.heap[bq]? := (hgrow9.block _ (by omega) (fun e => by have := (HLT.out bq e.symm).2; omega)).trans (hbC.block _ hsB)
    have hl2' : w9.heap[b8]? = wB.heap[b8]? := (hgrow9.block _ (by omega) (fun e => by have := (HLT.out b8 e.symm).1; omega)).trans (hbC.block _ hb8B)
    have hl3 : w9.heap[g]? = wB.heap[g]? := (hgrow9.block _ (by omega) (fun e => by have := (HLT.out g e.symm).1; omega)).trans (hbC.block _ hgB)
    clear hgrow9 hor9 hown9 hHeld HOC hNB hbC hsC
    refine hK.out _ _ (G0.out _ hl1 hl2' hl3) (fun hHeld => ?_)
    clear hK K
    try simp only [act_all]
    refine wpAnyH_take (i := 18) (oi := _) (v := ?_) rfl (by kernel_rfl) (by kernel_rfl) (by kernel_rfl) (fun _ _ _ h => h) (Or.inl ⟨by rfl, ?_⟩) (by assumption) ?_
    rotate_left
    · intro w hSw; obtain ⟨⟨s0, s1⟩, s2, ⟨s3, s4, s5⟩, s6, s7, s8⟩ := hSw; go_simp; (try with_reducible rfl)
    try change wpAnyH _ _ _ _ _ _ _ (Act.put _ (some 9) _) _
    try simp only [act_all]
    refine wpAnyH_done (by kernel_rfl) ?_ _
    clear hHeld hl1 hl2' hl3 HBB HOB G0
    go_wp2_with fail
    go_roundg (NN - (j + 1))
    case measure => have := HGG.out; omega
    case rel =>
      refine ⟨j + 1, by go_num, by omega, Lib.hid (Nat.le_refl _), Lib.hid (fun i hi hb => ?_), HO9, HB9⟩
      by_cases hij : i = j
      · subst hij; exact HAJ.out
      · exact HA.out i (by omega) hb
end Go.Proofs.Ytkkcnhhfdicppaa
