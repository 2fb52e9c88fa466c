import Derived.Test.YtldepffpafccpaaRd6
namespace Go.Proofs.Ytldepffpafccpaa
open Go.RowKit Heat
def talkV (N : Nat) (l : Nat → Nat) (F : Nat → Nat → Int) : Int := if okG N l F = true then talkT N F N else 0
set_option maxRecDepth 100000 in
set_option maxHeartbeats 8000000 in
theorem rTalk_any (N cap : Nat) (ao : Option Addr) (A : Nat → Option Addr) (l c : Nat → Nat) (F : Nat → Nat → Int) (w : World) (hN : N ≤ 9223372036854775807) (hR : Rowsw w ao N A l c F) :
    Calls Try.prog 28 #[.agg #[.slice ao N cap]] w fun e w' => e = .returned (.tuple #[.int .i64 (talkV N l F), .int .i64 (bankE N l F)]) ∧ Below w.heap.size w w' := by
  have HG := Lib.hid hR
  clear hR
  obtain ⟨bk, hbk⟩ : ∃ bk, okG N l F = bk := ⟨_, rfl⟩
  have HOK := Lib.hid hbk
  clear hbk
  have hbx : (w.alloc (Obj.cells #[.slice ao N cap] 40)).cell? ⟨w.heap.size, 0, none⟩ = some (.slice ao N cap) := by go_cell
  have hb0 : Below w.heap.size w (w.alloc (Obj.cells #[.slice ao N cap] 40)) := by go_grown
  have hsz : w.heap.size < (w.alloc (Obj.cells #[.slice ao N cap] 40)).heap.size := by simp
  go_enter Try.func28, Try.ntmps28
  go_upto_region 1 with fail
  generalize (w.alloc (Obj.cells #[.slice ao N cap] 40)) = W at *
  have HB0 := Lib.hid hb0
  clear hb0
  go_wp2_with fail
  refine (rhValid_any N cap ao A l c F _ hN (HG.out.keep (HB0.out.mono (Nat.le_refl _)))).mono ?_
  rw [HOK.out]
  rintro e w1 ⟨rfl, hb⟩
  have HB1 := Lib.hid (HB0.out.trans (hb.mono HB0.out.size))
  have hbx1 := (hb.cell (p := ⟨w.heap.size, 0, none⟩) hsz).trans hbx
  have hs1 : w.heap.size < w1.heap.size := by have := hb.size; omega
  clear hb HB0 hbx hsz
  have hbl := HB1.out
  cases bk with
  | false =>
    have HE : Hid (talkV N l F = 0 ∧ bankE N l F = 60) := Lib.hid ⟨by unfold talkV; rw [HOK.out]; rfl, by unfold bankE; rw [HOK.out]; rfl⟩
    go_wp2_with fail
    refine bodyPost_ret (v := .tuple #[.int .i64 0, .int .i64 60]) (by simp [results, Try.results28, go_sem]) rfl ⟨by rw [HE.out.1, HE.out.2], hbl⟩
  | true =>
    obtain ⟨hNN, hF⟩ := okG_iff.1 HOK.out
    have hN5 := hNN.2
    have hN1 := hNN.1
    have HF : Hid (∀ i, i < N → ∀ j, j < N → -200 ≤ F i j ∧ F i j ≤ 200) := Lib.hid (fun i hi => (hF i hi).2)
    have HRA := Lib.hid (HG.out.at HOK.out)
    have HE : Hid (talkV N l F = talkT N F N ∧ bankE N l F = 0) := Lib.hid ⟨by unfold talkV; rw [HOK.out]; rfl, by unfold bankE; rw [HOK.out]; rfl⟩
    clear hF hNN hbl
    go_wp2_with fail
    go_loopw [4, 5] (fun tv iv wr => ∃ (t z : Int) (i : Nat), tv = .int .i64 t ∧ iv = .int .i64 z ∧ z = i ∧ i ≤ N ∧ Hid (t = talkT N F i) ∧ Hid (Below w.heap.size w wr) ∧ wr.cell? ⟨w.heap.size, 0, none⟩ = some (.slice ao N cap) ∧ w.heap.size < wr.heap.size) (fun _ iv _ => N - (intOf iv).toNat)
    case atStart => exact ⟨0, 0, 0, rfl, rfl, by omega, by omega, Lib.hid rfl, HB1, hbx1, hs1⟩
    case round =>
      obtain ⟨t, z, i, rfl, rfl, hz, hi, HS, HB, hbxr, hsw⟩ := hrel
      by_cases hlt : i < N
      · have hlt' : z < (N : Int) := by omega
        subst hz
        have i0 : (0 : Int) ≤ (i : Int) := by omega
        have wz : wrap64 ((i : Int) + 1) = (i : Int) + 1 := by simp only [wrap64]; omega
        clear HB1 hbx1 hs1
        go_wp2_with fail
        go_loopw [4, 6] (fun uv jv wr => ∃ (u y : Int) (j : Nat), uv = .int .i64 u ∧ jv = .int .i64 y ∧ y = j ∧ j ≤ N ∧ Hid (u = talkR F i t j) ∧ Hid (Below w.heap.size w wr) ∧ wr.cell? ⟨w.heap.size, 0, none⟩ = some (.slice ao N cap) ∧ w.heap.size < wr.heap.size) (fun _ jv _ => N - (intOf jv).toNat)
        case atStart => exact ⟨t, 0, 0, rfl, rfl, by omega, by omega, Lib.hid rfl, HB, hbxr, hsw⟩
        case round =>
          obtain ⟨u, y, j, rfl, rfl, hy, hj, HU, HB2, hbx2, hsw2⟩ := hrel
          by_cases hjt : j < N
          · have hjt' : y < (N : Int) := by omega
            subst hy
            have j0 : (0 : Int) ≤ (j : Int) := by omega
            have wy : wrap64 ((j : Int) + 1) = (j : Int) + 1 := by clear wz; simp only [wrap64]; omega
            clear HB hbxr hsw
            by_cases e : i = j
            · subst e
              have HU2 : Hid (u = talkR F i t (i + 1)) := Lib.hid (by rw [HU.out]; exact (if_pos rfl).symm)
              have hne : ((i : Int) != (i : Int)) = false := by simp
              go_wp2_with fail
              go_roundw
              case rel => exact ⟨u, (i : Int) + 1, i + 1, by first | rfl | trivial, by first | rfl | rw [wy], by omega, by omega, HU2, HB2, hbx2, hsw2⟩
              case measure => first | (simp [intOf]; done) | (simp [intOf]; omega)
            · have hne : ((i : Int) != (j : Int)) = true := bne_iff_ne.2 (by omega)
              have hne2 : ¬ (i : Int) = (j : Int) := by omega
              obtain ⟨b, o, b1, o1, hao, hbl, hrow, hb1l, hcl⟩ := HRA.out i hlt
              have g0 := (HB2.out.cell (p := ⟨b, o + i, none⟩) hbl).trans hrow
              have g1 := (HB2.out.cell (p := ⟨b1, o1 + j, none⟩) hb1l).trans (hcl j hjt)
              have hb1 := HF.out i hlt j hjt
              obtain ⟨x, hx⟩ : ∃ x, F i j = x := ⟨_, rfl⟩
              rw [hx] at g1 hb1
              have hx1 : -4611686018427387904 ≤ x := by omega
              have hx2 : x ≤ 4611686018427387904 := by omega
              obtain ⟨q, hq⟩ : ∃ q, absI x = q := ⟨_, rfl⟩
              have HQ := Lib.hid hq
              have HU2 : Hid (talkR F i t (j + 1) = max u q) := Lib.hid (by rw [HU.out, ← hq, ← hx]; exact if_neg e)
              clear hx hq hb1 e hcl hrow
              subst hao
              go_wp2_with fail
              refine (rAbs_any x _ hx1 hx2).mono ?_
              rw [HQ.out]
              rintro e w4 ⟨rfl, hb⟩
              have HB4 := Lib.hid (HB2.out.trans (hb.mono HB2.out.size))
              have hbx4 := (hb.cell (p := ⟨w.heap.size, 0, none⟩) hsw2).trans hbx2
              have hs4 : w.heap.size < w4.heap.size := by have := hb.size; omega
              clear hb HB2 g0 g1 hsw2 hbx2
              by_cases hts : u < q
              · have hts2 : ¬ q ≤ u := by omega
                have hts3 : u ≤ q := by omega
                have HU3 : Hid (q = talkR F i t (j + 1)) := Lib.hid (by rw [HU2.out]; omega)
                go_wp2_with fail
                go_roundw
                case rel => exact ⟨q, (j : Int) + 1, j + 1, by first | rfl | simp [hts, hts2, hts3], by first | rfl | rw [wy], by omega, by omega, HU3, HB4, hbx4, hs4⟩
                case measure => first | (simp [intOf]; done) | (simp [intOf]; omega)
              · have hts2 : q ≤ u := by omega
                have HU3 : Hid (u = talkR F i t (j + 1)) := Lib.hid (by rw [HU2.out]; omega)
                go_wp2_with fail
                go_roundw
                case rel => exact ⟨u, (j : Int) + 1, j + 1, by first | rfl | simp [hts, hts2], by first | rfl | rw [wy], by omega, by omega, HU3, HB4, hbx4, hs4⟩
                case measure => first | (simp [intOf]; done) | (simp [intOf]; omega)
          · obtain rfl : j = N := by omega
            subst hy
            have HS2 : Hid (u = talkT j F (i + 1)) := Lib.hid (by rw [HU.out, HS.out]; rfl)
            clear HB hbxr hsw
            go_wp2_with fail
            go_roundw
            case rel => exact ⟨u, (i : Int) + 1, i + 1, by first | rfl | trivial, by first | rfl | rw [wz], by omega, by omega, HS2, HB2, hbx2, hsw2⟩
            case measure => first | (simp [intOf]; done) | (simp [intOf]; omega)
      · obtain rfl : i = N := by omega
        subst hz
        have hbl := HB.out
        go_wp2_with fail
        refine bodyPost_ret (v := .tuple #[.int .i64 t, .int .i64 0]) (by simp [results, Try.results28, go_sem]) rfl ⟨by rw [HE.out.1, HE.out.2, HS.out], hbl⟩
theorem hTalk_any (N cap : Nat) (ao : Option Addr) (A : Nat → Option Addr) (l c : Nat → Nat) (F : Nat → Nat → Int) (w : World) (hN : N ≤ 9223372036854775807) (hR : Rowsw w ao N A l c F) :
    Calls Try.prog 27 #[.agg #[.slice ao N cap]] w fun e w' => e = .returned (.tuple #[.int .i64 (talkV N l F), .int .i64 (bankE N l F)]) ∧ Below w.heap.size w w' := by
  unfold talkV bankE
  cases hok : okG N l F with
  | false => exact hTalk_no N cap ao A l c F w hN hR hok
  | true => exact hTalk_ok N cap ao A l c F w hN hR hok
theorem hDominant_any (N cap : Nat) (ao : Option Addr) (A : Nat → Option Addr) (l c : Nat → Nat) (F : Nat → Nat → Int) (w : World) (hN : N ≤ 9223372036854775807) (hR : Rowsw w ao N A l c F) :
    Calls Try.prog 25 #[.agg #[.slice ao N cap]] w fun e w' => e = .returned (.tuple #[.bool (domV N l F), .int .i64 (bankE N l F)]) ∧ Below w.heap.size w w' := by
  unfold domV bankE
  cases hok : okG N l F with
  | false => exact hDominant_no N cap ao A l c F w hN hR hok
  | true => exact hDominant_ok N cap ao A l c F w hN hR hok
end Go.Proofs.Ytldepffpafccpaa
