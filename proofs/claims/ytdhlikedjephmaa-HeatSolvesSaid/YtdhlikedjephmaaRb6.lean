import Derived.Test.YtdhlikedjephmaaBt6
import Derived.Test.YtdhlikedjephmaaSr6
namespace Go.Proofs.Ytdhlikedjephmaa
open Go.RowKit Heat
/-- What comes back of Bound. -/
def BoundR (w : World) (e : Ending) (N : Nat) (l : Nat → Nat) (F : Nat → Nat → Int) : Prop :=
  ∃ ao cap, e = .returned (.tuple #[.slice ao (if okG N l F = true then N else 0) cap, .int .i64 (if okG N l F = true then 0 else 60)]) ∧ Ints w ao (if okG N l F = true then N else 0) (fun i => sumA (F i) N)
set_option maxRecDepth 100000 in
set_option maxHeartbeats 8000000 in
theorem rBound_any (N cap : Nat) (ao : Option Addr) (A : Nat → Option Addr) (l c : Nat → Nat) (F : Nat → Nat → Int) (w : World) (hN : N ≤ 9223372036854775807) (hR : Rowsw w ao N A l c F) :
    Calls Try.prog 30 #[.agg #[.slice ao N cap]] w fun e w' => BoundR w' e N l F ∧ Below w.heap.size w w' := by
  have HG := Lib.hid hR
  clear hR
  obtain ⟨bk, hbk⟩ : ∃ bk, okG N l F = bk := ⟨_, rfl⟩
  have HOK := Lib.hid hbk
  clear hbk
  have hbx : (w.alloc (Obj.cells #[.slice ao N cap] 40)).cell? ⟨w.heap.size, 0, none⟩ = some (.slice ao N cap) := by go_cell
  have hb0 : Below w.heap.size w (w.alloc (Obj.cells #[.slice ao N cap] 40)) := by go_grown
  have hsz : w.heap.size < (w.alloc (Obj.cells #[.slice ao N cap] 40)).heap.size := by simp
  go_enter Try.func30, Try.ntmps30
  go_upto_region 1 with fail
  generalize (w.alloc (Obj.cells #[.slice ao N cap] 40)) = W at *
  have HB0 := Lib.hid hb0
  clear hb0
  go_wp2_with fail
  refine (rhValid_any N cap ao A l c F _ hN (HG.out.keep (HB0.out.mono (Nat.le_refl _)))).mono ?_
  rw [HOK.out]
  rintro e w1 ⟨rfl, hb⟩
  have HB1 := Lib.hid (HB0.out.trans (hb.mono HB0.out.size))
  have hbx1 := (hb.cell (p := ⟨w.heap.size, 0, none⟩) hsz).trans hbx
  have hs1 : w.heap.size < w1.heap.size := by have := hb.size; omega
  clear hb HB0 hbx hsz
  have hbl := HB1.out
  cases bk with
  | false =>
    go_wp2_with fail
    refine bodyPost_ret (v := .tuple #[.slice none 0 0, .int .i64 60]) (by simp [results, Try.results30, go_sem]) rfl ⟨?_, hbl⟩
    unfold BoundR
    rw [HOK.out]
    exact ⟨none, 0, rfl, fun h => absurd h (by simp)⟩
  | true =>
    obtain ⟨hNN, hF⟩ := okG_iff.1 HOK.out
    have hN5 := hNN.2
    have hN1 := hNN.1
    have HF : Hid (∀ i, i < N → ∀ j, j < N → -200 ≤ F i j ∧ F i j ≤ 200) := Lib.hid (fun i hi => (hF i hi).2)
    have HRA := Lib.hid (HG.out.at HOK.out)
    obtain ⟨i0, hi, hz0, hz1, hz2⟩ := info_parts infoInt
    have HI := Lib.hid (And.intro hi (And.intro hz0 (And.intro hz1 hz2)))
    clear hF hNN hi hz0 hz1 hz2 hbl
    go_wp2_with fail
    go_loopw [4, 5] (fun ov iv wr => ∃ (V : Value) (z : Int) (i : Nat), V = ov ∧ iv = .int .i64 z ∧ z = i ∧ i ≤ N ∧ Hid (wr.ownsRow (w.heap.size + 1) 3 1 V i (cellsI (fun i => sumA (F i) N) i)) ∧ Hid (Below w.heap.size w wr) ∧ wr.cell? ⟨w.heap.size, 0, none⟩ = some (.slice ao N cap) ∧ w.heap.size < wr.heap.size) (fun _ iv _ => N - (intOf iv).toNat)
    case atStart => exact ⟨_, 0, 0, rfl, rfl, by omega, by omega, Lib.hid (World.ownsRow_nil _ _ _ _), HB1, hbx1, hs1⟩
    case round =>
      obtain ⟨V, z, i, rfl, rfl, hz, hi, HO, HB, hbxr, hsw⟩ := hrel
      by_cases hlt : i < N
      · have hlt' : z < (N : Int) := by omega
        subst hz
        have i00 : (0 : Int) ≤ (i : Int) := by omega
        have wz : wrap64 ((i : Int) + 1) = (i : Int) + 1 := by simp only [wrap64]; omega
        clear HB1 hbx1 hs1
        go_wp2_with fail
        go_loopw [6, 7] (fun sv jv wr => ∃ (s y : Int) (j : Nat), sv = .int .i64 s ∧ jv = .int .i64 y ∧ y = j ∧ j ≤ N ∧ Hid (s = sumA (F i) j) ∧ Hid (wr.ownsRow (w.heap.size + 1) 3 1 V i (cellsI (fun i => sumA (F i) N) i)) ∧ Hid (Below w.heap.size w wr) ∧ wr.cell? ⟨w.heap.size, 0, none⟩ = some (.slice ao N cap) ∧ w.heap.size < wr.heap.size) (fun _ jv _ => N - (intOf jv).toNat)
        case atStart => exact ⟨0, 0, 0, rfl, rfl, by omega, by omega, Lib.hid rfl, HO, HB, hbxr, hsw⟩
        case round =>
          obtain ⟨s, y, j, rfl, rfl, hy, hj, HS, HO2, HB2, hbx2, hsw2⟩ := hrel
          by_cases hjt : j < N
          · have hjt' : y < (N : Int) := by omega
            subst hy
            have j00 : (0 : Int) ≤ (j : Int) := by omega
            obtain ⟨b, o, b1, o1, hao, hbl, hrow, hb1l, hcl⟩ := HRA.out i hlt
            have g0 := (HB2.out.cell (p := ⟨b, o + i, none⟩) hbl).trans hrow
            have g1 := (HB2.out.cell (p := ⟨b1, o1 + j, none⟩) hb1l).trans (hcl j hjt)
            have hfb := HF.out i hlt j hjt
            have hsb := sumA_bd (f := F i) (n := j) (fun q hq => HF.out i hlt q (by omega))
            rw [← HS.out] at hsb
            obtain ⟨v, hv⟩ : ∃ v, F i j = v := ⟨_, rfl⟩
            rw [hv] at g1 hfb
            have hab := absI_bd hfb
            have hv1 : -4611686018427387904 ≤ v := by omega
            have hv2 : v ≤ 4611686018427387904 := by omega
            obtain ⟨q, hq⟩ : ∃ q, absI v = q := ⟨_, rfl⟩
            have HQ := Lib.hid hq
            rw [hq] at hab
            have ws : wrap64 (s + q) = s + q := by clear wz; simp only [wrap64]; omega
            have wy : wrap64 ((j : Int) + 1) = (j : Int) + 1 := by clear wz ws; simp only [wrap64]; omega
            have HS2 : Hid (s + q = sumA (F i) (j + 1)) := Lib.hid (by rw [HS.out, ← hq, ← hv]; rfl)
            have HWS := Lib.hid ws
            clear hcl hrow hfb hsb hv hab hq HS HO HB hbxr hsw ws
            subst hao
            go_wp2_with fail
            refine (rAbs_any v _ hv1 hv2).mono ?_
            rw [HQ.out]
            rintro e w4 ⟨rfl, hb⟩
            have HO4 := Lib.hid (own_below' HO2.out hb)
            have HB4 := Lib.hid (HB2.out.trans (hb.mono HB2.out.size))
            have hbx4 := (hb.cell (p := ⟨w.heap.size, 0, none⟩) hsw2).trans hbx2
            have hs4 : w.heap.size < w4.heap.size := by have := hb.size; omega
            clear hb HO2 HB2 hbx2 hsw2 g0 g1
            go_upto_region 10 with fail
            simp only [HWS.out]
            go_wp2_with fail
            go_roundw
            case rel => exact ⟨s + q, (j : Int) + 1, j + 1, rfl, by first | rfl | rw [wy], by clear wy wz; omega, by clear wy wz; omega, HS2, HO4, HB4, hbx4, hs4⟩
            case measure => clear wz; first | (simp [intOf]; done) | (simp [intOf]; omega)
          · obtain rfl : j = N := by omega
            subst hy
            have hbl := HB2.out
            have hsz := hbl.size
            clear HO HB hbxr hsw
            go_wp2_with (at_builtin; refine wpList_append_own _ rfl (.tmp 36) (.tmp 38) 24 rfl (w.heap.size + 1) 3 i0 _ 1 8 Try.underlying24 HI.out.1 HI.out.2.1 HI.out.2.2.1 HI.out.2.2.2 rfl (by decide) _ i (cellsI (fun i => sumA (F i) j) i) rfl (HO2.out.alloc _) ⟨wr.heap.size, 0, none⟩ 1 1 [.int .i64 s] rfl rfl ?c1 ?c2 ?c3 ?c4 ?c5 ?_)
            case c1 => exact fun j u hu => World.news_of_block (cs := #[.int .i64 s]) (heap_new wr _) j u hu
            case c2 =>
              intro u hu
              simp only [List.mem_cons, List.not_mem_nil, or_false] at hu
              subst hu; rfl
            case c3 => unfold maxLen; omega
            case c4 => omega
            case c5 => first | omega | (simp; done) | (simp; omega)
            intro v' w5 hown' hgrow _
            have hltk := HO2.out.lt
            have HO5 : Hid (w5.ownsRow (w.heap.size + 1) 3 1 v' (i + 1) (cellsI (fun i => sumA (F i) j) (i + 1))) := Lib.hid (by rw [cellsI_succ, ← HS.out]; exact hown')
            have HB5 : Hid (Below w.heap.size w w5) := Lib.hid (Below.grown (hbl.alloc hsz _) hgrow (by first | omega | (simp; omega)) (fun q hq => Nat.le_of_succ_le (hltk q hq).1))
            have hbx5 : w5.cell? ⟨w.heap.size, 0, none⟩ = some (.slice ao j cap) := farc hgrow (show (wr.alloc (Obj.cells #[.int .i64 s] 3)).cell? ⟨w.heap.size, 0, none⟩ = _ by go_cell) (fun e => Nat.not_succ_le_self _ (hltk _ e.symm).1)
            have hs5 : w.heap.size < w5.heap.size := World.block_lt_of_cell? _ _ hbx5
            clear hown' hgrow hltk HO2 HB2 hbx2 hsw2
            go_wp2_with fail
            go_roundw
            case rel => exact ⟨v', (i : Int) + 1, i + 1, rfl, by first | rfl | rw [wz], by omega, by omega, HO5, HB5, hbx5, hs5⟩
            case measure => first | (simp [intOf]; done) | (simp [intOf]; omega)
      · obtain rfl : i = N := by omega
        subst hz
        obtain ⟨g', cap', rfl, hgB, hgs, _, _⟩ := own_fm HO.out hN1
        have HW : Hid (Intw wr g' i (fun q => sumA (F q) i)) := Lib.hid (Intw.of_own HO.out fun q hq => cellsI_get _ hq)
        have hbl := HB.out
        clear HO HB HB1 hbx1 hs1
        go_wp2_with fail
        refine bodyPost_ret (v := .tuple #[.slice (some ⟨g', 0, none⟩) i cap', .int .i64 0]) (by simp [results, Try.results30, go_sem]) rfl ⟨?_, hbl⟩
        unfold BoundR
        rw [HOK.out, if_pos rfl, if_pos rfl]
        exact ⟨_, cap', rfl, HW.out.ints⟩
theorem hBound_any (N cap : Nat) (ao : Option Addr) (A : Nat → Option Addr) (l c : Nat → Nat) (F : Nat → Nat → Int) (w : World) (hN : N ≤ 9223372036854775807) (hR : Rowsw w ao N A l c F) :
    Calls Try.prog 29 #[.agg #[.slice ao N cap]] w fun e w' => BoundR w' e N l F ∧ Below w.heap.size w w' := by
  cases hok : okG N l F with
  | false =>
    refine (hBound_no N cap ao A l c F w hN hR hok).mono ?_
    rintro e w' ⟨rfl, hb⟩
    refine ⟨?_, hb⟩
    unfold BoundR
    rw [hok]
    exact ⟨none, 0, rfl, fun h => absurd h (by simp)⟩
  | true =>
    refine (hBound_ok N cap ao A l c F w hN hR hok).mono ?_
    rintro e w' ⟨g, cap', rfl, hw, hb⟩
    refine ⟨?_, hb⟩
    unfold BoundR
    rw [hok, if_pos rfl, if_pos rfl]
    exact ⟨_, cap', rfl, hw.ints⟩
end Go.Proofs.Ytdhlikedjephmaa
