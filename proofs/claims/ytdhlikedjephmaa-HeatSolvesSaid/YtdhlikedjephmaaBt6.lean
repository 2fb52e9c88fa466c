import Derived.Test.YtdhlikedjephmaaBd6
namespace Go.Proofs.Ytdhlikedjephmaa
open Go.RowKit Heat
set_option maxRecDepth 100000 in
set_option maxHeartbeats 8000000 in
theorem hTalk_ok (N cap : Nat) (ao : Option Addr) (A : Nat → Option Addr) (l c : Nat → Nat) (F : Nat → Nat → Int) (w : World) (hN : N ≤ 9223372036854775807) (hR : Rowsw w ao N A l c F) (hok : okG N l F = true) :
    Calls Try.prog 27 #[.agg #[.slice ao N cap]] w fun e w' => e = .returned (.tuple #[.int .i64 (talkT N F N), .int .i64 0]) ∧ Below w.heap.size w w' := by
  have HG := Lib.hid hR
  have HOK := Lib.hid hok
  clear hR hok
  obtain ⟨hNN, hF⟩ := okG_iff.1 HOK.out
  have hN5 := hNN.2
  have HF : Hid (∀ i, i < N → ∀ j, j < N → -200 ≤ F i j ∧ F i j ≤ 200) := Lib.hid (fun i hi => (hF i hi).2)
  clear hF hNN
  have hbx : (w.alloc (Obj.cells #[.slice ao N cap] 40)).cell? ⟨w.heap.size, 0, none⟩ = some (.slice ao N cap) := by go_cell
  have hb0 : Below w.heap.size w (w.alloc (Obj.cells #[.slice ao N cap] 40)) := by go_grown
  have hsz : w.heap.size < (w.alloc (Obj.cells #[.slice ao N cap] 40)).heap.size := by simp
  go_enter Try.func27, Try.ntmps27
  go_upto_region 1 with fail
  generalize (w.alloc (Obj.cells #[.slice ao N cap] 40)) = W at *
  have HB0 := Lib.hid hb0
  have HSZ := Lib.hid hsz
  clear hb0
  refine wp_region_lit ?_
  refine wpList_step (fun K hK => ?_); go_simp; refine hK _ _ ?_; clear hK K
  refine wpList_step (fun K hK => ?_); go_simp
  refine (read_ok N cap ao A l c F _ hN (HG.out.keep (HB0.out.mono (Nat.le_refl _))) HOK.out).mono ?_
  rintro e w1 ⟨rfl, hb⟩
  have hB1 : Below w.heap.size w w1 := HB0.out.trans (hb.mono HB0.out.size)
  have hg : w.heap.size < w1.heap.size := by have h1 := hb.size; have h2 := HSZ.out; omega
  refine hK _ _ ?_; clear hK K
  clear hb hbx hsz HSZ HB0
  have HBK2 : Hid (Bkw (w1.alloc (Obj.cells #[.int .i64 0, .int .i64 0, .int .i64 0, .int .i64 0, .int .i64 0, .int .i64 0, .int .i64 0, .int .i64 0, .int .i64 0, .int .i64 0, .int .i64 0, .int .i64 0, .int .i64 0, .int .i64 0, .int .i64 0, .int .i64 0, .int .i64 0, .int .i64 0, .int .i64 0, .int .i64 0, .int .i64 0, .int .i64 0, .int .i64 0, .int .i64 0, .int .i64 0, .int .i64 0, .int .i64 0, .int .i64 0, .int .i64 0, .int .i64 0, .int .i64 0] 81)) w1.heap.size 0 (fun _ => 0) (fun _ => 0)) := Lib.hid (Bkw.fresh (by refine ⟨?_, ?_, ?_, ?_, ?_, ?_, ?_, ?_, ?_, ?_, ?_, ?_, ?_, ?_, ?_, ?_, ?_, ?_, ?_, ?_, ?_, ?_, ?_, ?_, ?_, ?_, ?_, ?_, ?_, ?_, ?_⟩ <;> go_cell) (by refine ⟨?_, ?_, ?_, ?_, ?_, ?_, ?_, ?_, ?_, ?_, ?_, ?_, ?_, ?_, ?_, ?_, ?_, ?_, ?_, ?_, ?_, ?_, ?_, ?_, ?_, ?_, ?_, ?_, ?_, ?_, ?_⟩ <;> go_cell))
  have hb2 : Below w1.heap.size w1 (w1.alloc (Obj.cells #[.int .i64 0, .int .i64 0, .int .i64 0, .int .i64 0, .int .i64 0, .int .i64 0, .int .i64 0, .int .i64 0, .int .i64 0, .int .i64 0, .int .i64 0, .int .i64 0, .int .i64 0, .int .i64 0, .int .i64 0, .int .i64 0, .int .i64 0, .int .i64 0, .int .i64 0, .int .i64 0, .int .i64 0, .int .i64 0, .int .i64 0, .int .i64 0, .int .i64 0, .int .i64 0, .int .i64 0, .int .i64 0, .int .i64 0, .int .i64 0, .int .i64 0] 81)) := (Below.refl _ _).alloc (Nat.le_refl _) _
  have hB2 : Below w.heap.size w (w1.alloc (Obj.cells #[.int .i64 0, .int .i64 0, .int .i64 0, .int .i64 0, .int .i64 0, .int .i64 0, .int .i64 0, .int .i64 0, .int .i64 0, .int .i64 0, .int .i64 0, .int .i64 0, .int .i64 0, .int .i64 0, .int .i64 0, .int .i64 0, .int .i64 0, .int .i64 0, .int .i64 0, .int .i64 0, .int .i64 0, .int .i64 0, .int .i64 0, .int .i64 0, .int .i64 0, .int .i64 0, .int .i64 0, .int .i64 0, .int .i64 0, .int .i64 0, .int .i64 0] 81)) := hB1.trans (hb2.mono hB1.size)
  refine wpList_step (fun K hK => ?_); go_simp; refine hK _ _ ?_; clear hK K
  refine wpList_step (fun K hK => ?_); go_simp; refine hK _ _ ?_; clear hK K
  refine wpList_step (fun K hK => ?_); go_simp; refine hK _ _ ?_; clear hK K
  refine wpList_step (fun K hK => ?_); go_simp; refine hK _ _ ?_; clear hK K
  generalize (w1.alloc (Obj.cells #[.int .i64 0, .int .i64 0, .int .i64 0, .int .i64 0, .int .i64 0, .int .i64 0, .int .i64 0, .int .i64 0, .int .i64 0, .int .i64 0, .int .i64 0, .int .i64 0, .int .i64 0, .int .i64 0, .int .i64 0, .int .i64 0, .int .i64 0, .int .i64 0, .int .i64 0, .int .i64 0, .int .i64 0, .int .i64 0, .int .i64 0, .int .i64 0, .int .i64 0, .int .i64 0, .int .i64 0, .int .i64 0, .int .i64 0, .int .i64 0, .int .i64 0] 81)) = W2 at *
  have HTH : Hid (W2.there w1.heap.size 0 (bkL N (gnL N N F) (rhL N N 0 F)).toArray.size) := Lib.hid HBK2.out.there
  (refine wpList_store_mid rfl 81 _ _ rfl w1.heap.size 0 (bkL N (gnL N N F) (rhL N N 0 F)).toArray rfl rfl HTH.out (infoBk N (gnL N N F) (rhL N N 0 F)) (all_oneCell_toArray (bkL_one N (gnL N N F) (rhL N N 0 F))) ?_)
  have HM3 : Hid (Bkw (W2.setCells w1.heap.size 0 (bkL N (gnL N N F) (rhL N N 0 F)).toArray.toList) w1.heap.size N (gnL N N F) (rhL N N 0 F)) := Lib.hid (by rw [List.toList_toArray]; exact HBK2.out.whole)
  have HB3 : Hid (Below w.heap.size w (W2.setCells w1.heap.size 0 (bkL N (gnL N N F) (rhL N N 0 F)).toArray.toList)) := Lib.hid (below_setCells hB2 hB1.size _ _)
  generalize W2.setCells w1.heap.size 0 (bkL N (gnL N N F) (rhL N N 0 F)).toArray.toList = W3 at *
  have hs3 : w1.heap.size < W3.heap.size := World.block_lt_of_cell? _ _ HM3.out.1.1
  clear HTH HBK2 hb2 hB2 hB1
  generalize w1.heap.size = g at *
  refine wpList_step (fun K hK => ?_); go_simp; refine hK _ _ ?_; clear hK K
  refine wpList_nil ?_
  have hc0 := HM3.out.1.1
  go_wp2_with fail
  go_loopw [6, 20] (fun tv iv wr => ∃ (t z : Int) (i : Nat), tv = .int .i64 t ∧ iv = .int .i64 z ∧ z = i ∧ i ≤ N ∧ Hid (t = talkT N F i) ∧ Hid (Bkw wr g N (gnL N N F) (rhL N N 0 F)) ∧ Hid (Below w.heap.size w wr) ∧ g < wr.heap.size) (fun _ iv _ => N - (intOf iv).toNat)
  case atStart => exact ⟨0, 0, 0, rfl, rfl, by omega, by omega, Lib.hid rfl, HM3, HB3, hs3⟩
  case round =>
    obtain ⟨t, z, i, rfl, rfl, hz, hi, HS, HM, HB, hsw⟩ := hrel
    by_cases hlt : i < N
    · have hlt' : z < (N : Int) := by omega
      subst hz
      have i0 : (0 : Int) ≤ (i : Int) := by omega
      have i5 : (i : Int) < 5 := by omega
      have wz : wrap64 ((i : Int) + 1) = (i : Int) + 1 := by simp only [wrap64]; omega
      have hc1 := HM.out.1.1
      clear HM3 HB3 hs3 hc0
      go_wp2_with fail
      clear hc1
      go_loopw [6, 26] (fun uv jv wr => ∃ (u y : Int) (j : Nat), uv = .int .i64 u ∧ jv = .int .i64 y ∧ y = j ∧ j ≤ N ∧ Hid (u = talkR F i t j) ∧ Hid (Bkw wr g N (gnL N N F) (rhL N N 0 F)) ∧ Hid (Below w.heap.size w wr) ∧ g < wr.heap.size) (fun _ jv _ => N - (intOf jv).toNat)
      case atStart => exact ⟨t, 0, 0, rfl, rfl, by omega, by omega, Lib.hid rfl, HM, HB, hsw⟩
      case round =>
        obtain ⟨u, y, j, rfl, rfl, hy, hj, HU, HM2, HB2, hsw2⟩ := hrel
        by_cases hjt : j < N
        · have hjt' : y < (N : Int) := by omega
          subst hy
          have j0 : (0 : Int) ≤ (j : Int) := by omega
          have j5 : (j : Int) < 5 := by omega
          have wy : wrap64 ((j : Int) + 1) = (j : Int) + 1 := by clear wz; simp only [wrap64]; omega
          clear HM HB hsw
          by_cases e : i = j
          · subst e
            have HU2 : Hid (u = talkR F i t (i + 1)) := Lib.hid (by rw [HU.out]; exact (if_pos rfl).symm)
            have hne : ((i : Int) != (i : Int)) = false := by simp
            go_wp2_with fail
            go_roundw
            case rel => exact ⟨u, (i : Int) + 1, i + 1, by first | rfl | trivial, by first | rfl | rw [wy], by omega, by omega, HU2, HM2, HB2, hsw2⟩
            case measure => first | (simp [intOf]; done) | (simp [intOf]; omega)
          · have hne : ((i : Int) != (j : Int)) = true := bne_iff_ne.2 (by omega)
            have hne2 : ¬ (i : Int) = (j : Int) := by omega
            have hij : gnL N N F (i * 5 + j) = F i j := by
              have h5 : (i * 5 + j) / 5 = i ∧ (i * 5 + j) % 5 = j := by omega
              unfold gnL
              rw [h5.1, h5.2, if_pos ⟨hlt, hjt⟩]
            obtain ⟨t0, _⟩ := HM2.out.1.2.2 (i * 5 + j) (by omega)
            rw [← Nat.add_assoc, hij] at t0
            have hb1 := HF.out i hlt j hjt
            obtain ⟨x, hx⟩ : ∃ x, F i j = x := ⟨_, rfl⟩
            rw [hx] at t0 hb1
            have hx1 : -4611686018427387904 ≤ x := by omega
            have hx2 : x ≤ 4611686018427387904 := by omega
            obtain ⟨q, hq⟩ : ∃ q, absI x = q := ⟨_, rfl⟩
            have HQ := Lib.hid hq
            have HU2 : Hid (talkR F i t (j + 1) = max u q) := Lib.hid (by rw [HU.out, ← hq, ← hx]; exact if_neg e)
            clear hx hq hij hb1 e
            go_wp2_with fail
            refine (size_any x _ hx1 hx2).mono ?_
            rw [HQ.out]
            rintro e w4 ⟨rfl, hb⟩
            have HM4 := Lib.hid (HM2.out.keep hb)
            have HB4 := Lib.hid (HB2.out.trans (hb.mono HB2.out.size))
            have hs4 : g < w4.heap.size := by have := hb.size; omega
            clear hb HM2 HB2 t0 hsw2
            by_cases hts : u < q
            · have hts2 : ¬ q ≤ u := by omega
              have hts3 : u ≤ q := by omega
              have HU3 : Hid (q = talkR F i t (j + 1)) := Lib.hid (by rw [HU2.out]; omega)
              go_wp2_with fail
              go_roundw
              case rel => exact ⟨q, (j : Int) + 1, j + 1, by first | rfl | simp [hts, hts2, hts3], by first | rfl | rw [wy], by omega, by omega, HU3, HM4, HB4, hs4⟩
              case measure => first | (simp [intOf]; done) | (simp [intOf]; omega)
            · have hts2 : q ≤ u := by omega
              have HU3 : Hid (u = talkR F i t (j + 1)) := Lib.hid (by rw [HU2.out]; omega)
              go_wp2_with fail
              go_roundw
              case rel => exact ⟨u, (j : Int) + 1, j + 1, by first | rfl | simp [hts, hts2], by first | rfl | rw [wy], by omega, by omega, HU3, HM4, HB4, hs4⟩
              case measure => first | (simp [intOf]; done) | (simp [intOf]; omega)
        · obtain rfl : j = N := by omega
          subst hy
          have HS2 : Hid (u = talkT j F (i + 1)) := Lib.hid (by rw [HU.out, HS.out]; rfl)
          clear HM HB hsw
          go_wp2_with fail
          go_roundw
          case rel => exact ⟨u, (i : Int) + 1, i + 1, by first | rfl | trivial, by first | rfl | rw [wz], by omega, by omega, HS2, HM2, HB2, hsw2⟩
          case measure => first | (simp [intOf]; done) | (simp [intOf]; omega)
    · obtain rfl : i = N := by omega
      subst hz
      have hbl := HB.out
      go_wp2_with fail
      refine bodyPost_ret (v := .tuple #[.int .i64 t, .int .i64 0]) (by simp [results, Try.results27, go_sem]) rfl ⟨by rw [HS.out], hbl⟩
end Go.Proofs.Ytdhlikedjephmaa
