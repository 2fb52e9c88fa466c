import Derived.Test.YtkkcnhhfdicppaaIu7
import Derived.Test.YtkkcnhhfdicppaaPb7
import Derived.Test.YtkkcnhhfdicppaaPh7
namespace Lay
/-- What room finds: two cells beside a step that may be put between. -/
def Room (W H : Int) (K U : Int → Int → Bool) (X Y : Nat → Int) (l i : Nat) (s o : Int) : Prop :=
  i < l ∧ (s = 1 ∨ s = 3) ∧ o = (wyN X Y i + s) % 4 ∧ opB W H K (nx (X i) o) (ny (Y i) o) = true ∧ opB W H K (nx (X (i + 1)) o) (ny (Y (i + 1)) o) = true ∧ U (nx (X i) o) (ny (Y i) o) = false ∧ U (nx (X (i + 1)) o) (ny (Y (i + 1)) o) = false
end Lay
namespace Go.Proofs.Ytkkcnhhfdicppaa
open Go.RowKit Lay
set_option maxRecDepth 100000 in
set_option maxHeartbeats 64000000 in
theorem room_any (W H M B : Int) (nb cb m l cp mu : Nat) (ao al : Option Addr) (K U : Int → Int → Bool) (N9 N2 : Nat) (X Y : Nat → Int) (w : World) (hW : W ≤ 30) (hH : H ≤ 30) (hm : BMap w m N9 K) (hu : BMap w mu N2 U) (hl : l + 1 ≤ 1000)
    (hc : XYs w al (l + 1) X Y) (hon : ∀ k, k < l + 1 → (0 ≤ X k ∧ X k < 30) ∧ 0 ≤ Y k ∧ Y k < 30) (hst : ∀ k, k < l → wyN X Y k ≠ -1) :
    Calls Try.prog 58 #[bdV W H M B ao nb cb m, .slice al (l + 1) cp, .map (some mu)] w fun e w' => Below w.heap.size w w' ∧ (e = .returned (.tuple #[.int .i64 0, .slice none 0 0]) ∨ ∃ (i g : Nat) (s o : Int), Room W H K U X Y l i s o ∧ e = .returned (.tuple #[.int .i64 ((i : Int) + 1), .slice (some ⟨g, 0, none⟩) 2 2]) ∧ w.heap.size ≤ g ∧
      w'.heap[g]? = some (.cells #[.int .i64 (nx (X i) o), .int .i64 (ny (Y i) o), .int .i64 (nx (X (i + 1)) o), .int .i64 (ny (Y (i + 1)) o)] 26 (0, 0))) := by
  have HC := Lib.hid hc
  have HM := Lib.hid hm
  have HU := Lib.hid hu
  have HON := Lib.hid hon
  have HST := Lib.hid hst
  have HRR : Hid (R2 X Y (l + 1)) := Lib.hid (fun k hk => by have := hon k hk; omega)
  have hml := hm.lt
  have hul := hu.lt
  clear hc hm hu hon hst
  go_enter Try.func58, Try.ntmps58
  go_wp2_with fail
  refine (waysOf_any l cp al X Y _ (by omega) (HC.out.keep (by go_grown)) HRR.out).mono ?_
  rintro e w1 ⟨v, rfl, hown, hb⟩
  obtain ⟨av, cv, rfl, hI⟩ := own_ints hown
  have HI1 := Lib.hid hI
  have HB1 : Hid (Below w.heap.size w w1) := Lib.hid (Below.trans (by go_grown) (hb.mono (by simp)))
  have KB1 : Hid (w1.heap[w.heap.size]? = some (.cells #[.int .i64 W, .int .i64 H, .int .i64 M, .int .i64 B, .slice ao nb cb, .map (some m)] 68 (0, 0))) := Lib.hid ((hb.block _ (by simp)).trans (heap_alloc_new w _))
  have hz1 : w.heap.size < w1.heap.size := by have := hb.size; simp at this; omega
  clear hb hown hI
  go_wp2_with fail
  go_loopg [18] l (fun gg v18 wr => ∃ k : Nat, v18 = .int .i64 k ∧ k ≤ l ∧ Hid (l - k ≤ gg) ∧ Hid (Ints wr av l (wyN X Y)) ∧ Hid (wr.heap[w.heap.size]? = some (.cells #[.int .i64 W, .int .i64 H, .int .i64 M, .int .i64 B, .slice ao nb cb, .map (some m)] 68 (0, 0))) ∧ Hid (Below w.heap.size w wr) ∧ w.heap.size < wr.heap.size)
  case atStart => exact ⟨0, rfl, Nat.zero_le _, Lib.hid (by omega), HI1, KB1, HB1, hz1⟩
  case round =>
    obtain ⟨k, rfl, hk, HG, HI, KB, HB, hz⟩ := hrel
    clear HI1 KB1 HB1 hz1
    by_cases hlt : k < l
    case neg =>
      go_wp2_with fail
      refine bodyPost_ret (v := .tuple #[.int .i64 0, .slice none 0 0]) (by simp [results, Try.results58, go_sem]) rfl ⟨HB.out, Or.inl rfl⟩
    have HGG : Hid (l - k ≤ gk) := Lib.hid HG.out
    clear HG
    obtain ⟨bi, oi, rfl, hci⟩ := HI.out (by omega)
    have c0 := hci k hlt
    have hwr := wyS_range (X k) (Y k) (X (k + 1)) (Y (k + 1))
    have hw0 : wyN X Y k = wyS (X k) (Y k) (X (k + 1)) (Y (k + 1)) := rfl
    rw [← hw0] at hwr
    have hws := HST.out k hlt
    obtain ⟨d, hd⟩ : ∃ z, wyN X Y k = z := ⟨_, rfl⟩
    rw [hd] at c0 hwr hws
    have hd0 : 0 ≤ d ∧ d < 4 := by omega
    have HD := Lib.hid hd
    clear hci hw0 hwr hws hd
    obtain ⟨b23, hb23⟩ : ∃ z, z = wr.heap.size := ⟨_, rfl⟩
    obtain ⟨w2, hw2⟩ : ∃ z, z = wr.alloc (.cells #[.int .i64 1, .int .i64 3] 3) := ⟨_, rfl⟩
    have hc12 : Below wr.heap.size wr w2 := by rw [hw2]; exact bal (Below.refl _ _) _
    have K232 : Hid (w2.heap[b23]? = some (.cells #[.int .i64 1, .int .i64 3] 3 (0, 0))) := Lib.hid (by rw [hw2, hb23]; exact heap_alloc_new wr _)
    have HI2 : Hid (Ints w2 (some ⟨bi, oi, none⟩) l (wyN X Y)) := Lib.hid (HI.out.keep hc12)
    have KB2 : Hid (w2.heap[w.heap.size]? = some (.cells #[.int .i64 W, .int .i64 H, .int .i64 M, .int .i64 B, .slice ao nb cb, .map (some m)] 68 (0, 0))) := Lib.hid ((hc12.block _ hz).trans KB.out)
    have HB2 : Hid (Below w.heap.size w w2) := Lib.hid (HB.out.trans (hc12.mono HB.out.size))
    have hz2 : b23 < w2.heap.size := by rw [hw2, hb23]; simp
    have h23 : w.heap.size < b23 := by omega
    have HW2 := Lib.hid (And.intro hw2 hb23)
    clear hc12 hw2 hb23 KB HB HI
    go_upto_region 5 with fail
    rw [← HW2.out.1]
    try rw [← HW2.out.2]
    clear HW2 c0 hz
    go_loopg [25] 2 (fun gg v25 wr => ∃ q : Nat, v25 = .int .i64 q ∧ q ≤ 2 ∧ Hid (2 - q ≤ gg) ∧ Hid (wr.heap[b23]? = some (.cells #[.int .i64 1, .int .i64 3] 3 (0, 0))) ∧ Hid (Ints wr (some ⟨bi, oi, none⟩) l (wyN X Y)) ∧ Hid (wr.heap[w.heap.size]? = some (.cells #[.int .i64 W, .int .i64 H, .int .i64 M, .int .i64 B, .slice ao nb cb, .map (some m)] 68 (0, 0))) ∧ Hid (Below w.heap.size w wr) ∧ b23 < wr.heap.size)
    case atStart => exact ⟨0, rfl, by omega, Lib.hid (by omega), K232, HI2, KB2, HB2, hz2⟩
    case round =>
      obtain ⟨q, rfl, hq, HG, K23, HI, KB, HB, hz⟩ := hrel
      clear K232 HI2 KB2 HB2 hz2
      by_cases hq2 : q < 2
      case neg =>
        obtain rfl : q = 2 := by omega
        have hzz : w.heap.size < wr.heap.size := by omega
        go_wp2_with fail
        go_roundg (l - (k + 1))
        case measure => have := HGG.out; omega
        case rel => exact ⟨k + 1, by go_num, by omega, Lib.hid (Nat.le_refl _), HI, KB, HB, hzz⟩
      have HGD : Hid (2 - q ≤ gk) := Lib.hid HG.out
      clear HG
      obtain ⟨s, hs, hsc⟩ : ∃ s : Int, (s = 1 ∨ s = 3) ∧ wr.cell? ⟨b23, q, none⟩ = some (.int .i64 s) := by
        have : q = 0 ∨ q = 1 := by omega
        rcases this with rfl | rfl
        · exact ⟨1, Or.inl rfl, cell_of_blk K23.out rfl⟩
        · exact ⟨3, Or.inr rfl, cell_of_blk K23.out rfl⟩
      have hs9 : 0 ≤ s ∧ s < 1000 := by omega
      go_wp2_with fail
      refine (turnedBy_any d s _ (by omega) (by omega) (by omega) (by omega)).mono ?_
      have ho4 : 0 ≤ (d + s) % 4 ∧ (d + s) % 4 < 4 := by omega
      obtain ⟨oo, hoo⟩ : ∃ z, (d + s) % 4 = z := ⟨_, rfl⟩
      rw [hoo] at ho4 ⊢
      have HOO := Lib.hid hoo
      clear hoo
      rintro e wo ⟨rfl, hb⟩
      have K23o : Hid (wo.heap[b23]? = some (.cells #[.int .i64 1, .int .i64 3] 3 (0, 0))) := Lib.hid ((hb.block _ hz).trans K23.out)
      have HIo : Hid (Ints wo (some ⟨bi, oi, none⟩) l (wyN X Y)) := Lib.hid (HI.out.keep hb)
      have KBo : Hid (wo.heap[w.heap.size]? = some (.cells #[.int .i64 W, .int .i64 H, .int .i64 M, .int .i64 B, .slice ao nb cb, .map (some m)] 68 (0, 0))) := Lib.hid ((hb.block _ (by omega)).trans KB.out)
      have HBo : Hid (Below w.heap.size w wo) := Lib.hid (HB.out.trans (hb.mono HB.out.size))
      have hzo : b23 < wo.heap.size := by have := hb.size; omega
      clear hb K23 HI KB HB hz hsc
      obtain ⟨b, o, rfl, hcell⟩ := (HC.out.keep HBo.out) (by omega)
      have hc0 := hcell k (by omega)
      have hc1 := hcell (k + 1) (by omega)
      have hx0 := HON.out k (by omega)
      have hx1 := HON.out (k + 1) (by omega)
      obtain ⟨x, hx⟩ : ∃ z, X k = z := ⟨_, rfl⟩
      obtain ⟨y, hy⟩ : ∃ z, Y k = z := ⟨_, rfl⟩
      obtain ⟨p, hp⟩ : ∃ z, X (k + 1) = z := ⟨_, rfl⟩
      obtain ⟨r, hr⟩ : ∃ z, Y (k + 1) = z := ⟨_, rfl⟩
      rw [hx, hy] at hc0 hx0
      rw [hp, hr] at hc1 hx1
      obtain ⟨px, hpx⟩ : ∃ z, nx x oo = z := ⟨_, rfl⟩
      obtain ⟨py, hpy⟩ : ∃ z, ny y oo = z := ⟨_, rfl⟩
      obtain ⟨qx, hqx⟩ : ∃ z, nx p oo = z := ⟨_, rfl⟩
      obtain ⟨qy, hqy⟩ : ∃ z, ny r oo = z := ⟨_, rfl⟩
      have HXY := Lib.hid (And.intro hx (And.intro hy (And.intro hp hr)))
      have HPX := Lib.hid (And.intro hpx (And.intro hpy (And.intro hqx hqy)))
      have G0 : Hid (∀ w' : World, Below wo.heap.size wo w' → XyAt w' b (o + k * 2) x y ∧ XyAt w' b (o + (k + 1) * 2) p r) := Lib.hid (fun w' hb => ⟨hc0.keep hb, hc1.keep hb⟩)
      have hlt1 : (k : Int) + 1 < (l : Int) + 1 := by omega
      have hlt2 : (k : Int) < (l : Int) + 1 := by omega
      have hlt0 : (0 : Int) ≤ (k : Int) + 1 := by omega
      have hwr : IntKind.i64.wrap ((k : Int) + 1) = (k : Int) + 1 := by rw [IntKind.wrap_i64]; omega
      clear hcell hc0 hc1 hx hy hp hr hpx hpy hqx hqy
      go_upto_region 8 with fail
      go_cut [13, 14] (fun v13 v14 wx => ∃ b13 b14, v13 = .pointer (some ⟨b13, 0, none⟩) ∧ v14 = .pointer (some ⟨b14, 0, none⟩) ∧ wx.heap[b13]? = some (.cells #[.int .i64 px, .int .i64 py] 26 (0, 0)) ∧ wx.heap[b14]? = some (.cells #[.int .i64 qx, .int .i64 qy] 26 (0, 0)) ∧ Below wo.heap.size wo wx)
      case first =>
        have D0 : Below wo.heap.size wo wo.drew := (Below.refl _ _).drew
        clear HIo KBo HBo K23o HGG HGD HD HXY HON HST HRR HC HM HU
        refine wp_region_held_drew (S := fun w' => XyAt w' b (o + k * 2) x y ∧ XyAt w' b (o + (k + 1) * 2) p r) (by kernel_rfl) (G0.out _ D0) (fun hHeld => ?_)
        obtain ⟨t0, ht0⟩ : ∃ z, z = wo.drew := ⟨_, rfl⟩
        rw [← ht0] at D0 ⊢
        clear ht0 hHeld
        have hHeld := G0.out _ D0
        refine wpAnyH_take (i := 0) (oi := _) (v := ?_) rfl (by kernel_rfl) (by kernel_rfl) (by kernel_rfl) (fun _ _ _ h => h) (Or.inl ⟨by rfl, ?_⟩) (by assumption) ?_
        rotate_left
        · intro w hSw; obtain ⟨s0, s1⟩ := hSw; go_simp; (try with_reducible rfl)
        try change wpAnyH _ _ _ _ _ _ _ (Act.put _ (some 32) _) _
        try simp only [act_all]
        refine wpAnyH_take (i := 1) (oi := _) (v := ?_) rfl (by kernel_rfl) (by kernel_rfl) (by kernel_rfl) (fun _ _ _ h => h) (Or.inl ⟨by rfl, ?_⟩) (by assumption) ?_
        rotate_left
        · intro w hSw; obtain ⟨s0, s1⟩ := hSw; go_simp; (try with_reducible rfl)
        try change wpAnyH _ _ _ _ _ _ _ (Act.put _ (some 33) _) _
        try simp only [act_all]
        refine wpAnyH_take (i := 2) (oi := _) (v := ?_) rfl (by kernel_rfl) (by kernel_rfl) (by kernel_rfl) (fun _ _ _ h => h) (Or.inl ⟨by rfl, ?_⟩) (by assumption) ?_
        rotate_left
        · intro w hSw; obtain ⟨s0, s1⟩ := hSw; go_simp; (try with_reducible rfl)
        try change wpAnyH _ _ _ _ _ _ _ (Act.put _ (some 34) _) _
        try simp only [act_all]
        refine wpAnyH_take (i := 3) (oi := _) (v := _) rfl (by kernel_rfl) (by kernel_rfl) (by kernel_rfl) (fun _ _ _ h => h) (yieldsIf_load_mid (by rfl) 26 _ rfl b _ rfl ([.int .i64 x, .int .i64 y]) _ (fun w' hh => by simpa using range_xy hh.1) Try.underlying26 rfl (by kernel_rfl)) (by assumption) ?_
        try change wpAnyH _ _ _ _ _ _ _ (Act.put _ (some 35) _) _
        try simp only [act_all]
        refine wpAnyH_take (i := 4) (oi := _) (v := ?_) rfl (by kernel_rfl) (by kernel_rfl) (by kernel_rfl) (fun _ _ _ h => h) (Or.inl ⟨by rfl, ?_⟩) (by assumption) ?_
        rotate_left
        · intro w hSw; obtain ⟨s0, s1⟩ := hSw; go_simp; (try with_reducible rfl)
        try change wpAnyH _ _ _ _ _ _ _ (Act.put _ (some 36) _) _
        try simp only [act_all]
        refine wpAnyH_take (i := 6) (oi := _) (v := ?_) rfl (by kernel_rfl) (by kernel_rfl) (by kernel_rfl) (fun _ _ _ h => h) (Or.inl ⟨by rfl, ?_⟩) (by assumption) ?_
        rotate_left
        · intro w hSw; obtain ⟨s0, s1⟩ := hSw; go_simp; (try with_reducible rfl)
        try change wpAnyH _ _ _ _ _ _ _ (Act.put _ (some 38) _) _
        try simp only [act_all]
        refine wpAnyH_take (i := 7) (oi := _) (v := ?_) rfl (by kernel_rfl) (by kernel_rfl) (by kernel_rfl) (fun _ _ _ h => h) (Or.inl ⟨by rfl, ?_⟩) (by assumption) ?_
        rotate_left
        · intro w hSw; obtain ⟨s0, s1⟩ := hSw; go_simp; (try with_reducible rfl)
        try change wpAnyH _ _ _ _ _ _ _ (Act.put _ (some 39) _) _
        try simp only [act_all]
        refine wpAnyH_take (i := 8) (oi := _) (v := ?_) rfl (by kernel_rfl) (by kernel_rfl) (by kernel_rfl) (fun _ _ _ h => h) (Or.inl ⟨by rfl, ?_⟩) (by assumption) ?_
        rotate_left
        · intro w hSw; obtain ⟨s0, s1⟩ := hSw; go_simp; (try with_reducible rfl)
        try change wpAnyH _ _ _ _ _ _ _ (Act.put _ (some 40) _) _
        try simp only [act_all]
        refine wpAnyH_take (i := 9) (oi := _) (v := ?_) rfl (by kernel_rfl) (by kernel_rfl) (by kernel_rfl) (fun _ _ _ h => h) (Or.inl ⟨by rfl, ?_⟩) (by assumption) ?_
        rotate_left
        · intro w hSw; obtain ⟨s0, s1⟩ := hSw; go_simp; (try with_reducible rfl)
        try change wpAnyH _ _ _ _ _ _ _ (Act.put _ (some 41) _) _
        try simp only [act_all]
        refine wpAnyH_take (i := 10) (oi := _) (v := _) rfl (by kernel_rfl) (by kernel_rfl) (by kernel_rfl) (fun _ _ _ h => h) (yieldsIf_load_mid (by rfl) 26 _ rfl b _ rfl ([.int .i64 p, .int .i64 r]) _ (fun w' hh => by simpa using range_xy hh.2) Try.underlying26 rfl (by kernel_rfl)) (by assumption) ?_
        try change wpAnyH _ _ _ _ _ _ _ (Act.put _ (some 42) _) _
        try simp only [act_all]
        refine wpAnyH_take (i := 11) (oi := _) (v := ?_) rfl (by kernel_rfl) (by kernel_rfl) (by kernel_rfl) (fun _ _ _ h => h) (Or.inl ⟨by rfl, ?_⟩) (by assumption) ?_
        rotate_left
        · intro w hSw; obtain ⟨s0, s1⟩ := hSw; go_simp; (try with_reducible rfl)
        try change wpAnyH _ _ _ _ _ _ _ (Act.put _ (some 43) _) _
        try simp only [act_all]
        refine wpAnyH_ready (rs := [5, 13, 14]) (by kernel_rfl) (by simp) ?_
        refine AllReadyH.cons (o := _) rfl (fun K hK => ?_) ?_
        ·
          go_simp
          refine (beside_any x y oo _ (by omega) (by omega) (by omega) (by omega)).mono ?_
          rw [HPX.out.1, HPX.out.2.1]
          rintro e_ t1 ⟨rfl, hb⟩
          have D1 : Below wo.heap.size wo t1 := D0.trans (hb.mono D0.size)
          clear hb hHeld D0
          refine hK.out _ _ (G0.out _ D1) (fun hHeld => ?_)
          clear hK K
          try simp only [act_all]
          refine wpAnyH_ready (rs := [12, 13, 14]) (by kernel_rfl) (by simp) ?_
          refine AllReadyH.cons (o := _) rfl (fun K hK => ?_) ?_
          ·
            go_simp
            refine (beside_any p r oo _ (by omega) (by omega) (by omega) (by omega)).mono ?_
            rw [HPX.out.2.2.1, HPX.out.2.2.2]
            rintro e_ t2 ⟨rfl, hb⟩
            have D2 : Below wo.heap.size wo t2 := D1.trans (hb.mono D1.size)
            clear hb hHeld D1
            refine hK.out _ _ (G0.out _ D2) (fun hHeld => ?_)
            clear hK K
            try simp only [act_all]
            refine wpAnyH_ready (rs := [13, 14]) (by kernel_rfl) (by simp) ?_
            refine AllReadyH.cons (o := _) rfl (fun K hK => ?_) ?_
            ·
              go_simp
              have D3 : Below wo.heap.size wo (t2.alloc (.cells #[.int .i64 0, .int .i64 0] 26)) := D2.alloc D2.size _
              have A13_3 : (t2.alloc (.cells #[.int .i64 0, .int .i64 0] 26)).heap[t2.heap.size]? = some (.cells #[.int .i64 0, .int .i64 0] 26 (0, 0)) := heap_alloc_new t2 _
              clear hHeld
              refine hK.out _ _ (G0.out _ D3) (fun hHeld => ?_)
              clear hK K
              try simp only [act_all]
              obtain ⟨b13, hb13⟩ : ∃ z, z = t2.heap.size := ⟨_, rfl⟩
              have g13 : wo.heap.size ≤ b13 := by rw [hb13]; exact D2.size
              rw [← hb13] at A13_3 ⊢
              obtain ⟨t3, ht3⟩ : ∃ z, z = (t2.alloc (.cells #[.int .i64 0, .int .i64 0] 26)) := ⟨_, rfl⟩
              rw [← ht3] at A13_3 D3 ⊢
              clear ht3 hb13 hHeld D2
              have hHeld := G0.out _ D3
              refine wpAnyH_ready (rs := [14]) (by kernel_rfl) (by simp) ?_
              refine AllReadyH.cons (o := _) rfl (fun K hK => ?_) AllReadyH.nil
              go_simp
              have D4 : Below wo.heap.size wo (t3.alloc (.cells #[.int .i64 0, .int .i64 0] 26)) := D3.alloc D3.size _
              have A14_4 : (t3.alloc (.cells #[.int .i64 0, .int .i64 0] 26)).heap[t3.heap.size]? = some (.cells #[.int .i64 0, .int .i64 0] 26 (0, 0)) := heap_alloc_new t3 _
              have A13_4 : (t3.alloc (.cells #[.int .i64 0, .int .i64 0] 26)).heap[b13]? = some (.cells #[.int .i64 0, .int .i64 0] 26 (0, 0)) := (Below.heap_alloc _ _ _ (Array.getElem?_eq_some_iff.1 A13_3).1).trans A13_3
              clear hHeld
              refine hK.out _ _ (G0.out _ D4) (fun hHeld => ?_)
              clear hK K
              try simp only [act_all]
              obtain ⟨b14, hb14⟩ : ∃ z, z = t3.heap.size := ⟨_, rfl⟩
              have g14 : wo.heap.size ≤ b14 := by rw [hb14]; exact D3.size
              have hne : b13 ≠ b14 := by have := (Array.getElem?_eq_some_iff.1 A13_3).1; omega
              rw [← hb14] at A14_4 ⊢
              obtain ⟨t4, ht4⟩ : ∃ z, z = (t3.alloc (.cells #[.int .i64 0, .int .i64 0] 26)) := ⟨_, rfl⟩
              rw [← ht4] at A14_4 D4 A13_4 ⊢
              clear ht4 hb14 hHeld D3 A13_3
              have hHeld := G0.out _ D4
              refine wpAnyH_ready (rs := [15]) (by kernel_rfl) (by simp) ?_
              refine AllReadyH.cons (o := _) rfl (fun K hK => ?_) AllReadyH.nil
              have v0 : t4.cell? ⟨b13, 0, none⟩ = some (.int .i64 0) := cell_of_blk A13_4 rfl
              have v1 : t4.cell? ⟨b13, 1, none⟩ = some (.int .i64 0) := cell_of_blk A13_4 rfl
              have vf : ∀ j, t4.frozen? ⟨b13, j, none⟩ = false := fun j => by simp [World.frozen?, A13_4]
              go_simp
              have A13_5 : ((t4.setCell ⟨b13, 0, none⟩ (.int .i64 px)).setCell ⟨b13, 1, none⟩ (.int .i64 py)).heap[b13]? = some (.cells #[.int .i64 px, .int .i64 py] 26 (0, 0)) := blk_set (blk_set A13_4 _) _
              have D5 : Below wo.heap.size wo ((t4.setCell ⟨b13, 0, none⟩ (.int .i64 px)).setCell ⟨b13, 1, none⟩ (.int .i64 py)) := (D4.setCell (p := ⟨b13, 0, none⟩) g13 _).setCell (p := ⟨b13, 1, none⟩) g13 _
              have A14_5 : ((t4.setCell ⟨b13, 0, none⟩ (.int .i64 px)).setCell ⟨b13, 1, none⟩ (.int .i64 py)).heap[b14]? = some (.cells #[.int .i64 0, .int .i64 0] 26 (0, 0)) := (Below.heap_setCell _ _ _ _ (show b14 ≠ b13 by omega)).trans ((Below.heap_setCell _ _ _ _ (show b14 ≠ b13 by omega)).trans A14_4)
              clear hHeld
              refine hK.out _ _ (G0.out _ D5) (fun hHeld => ?_)
              clear hK K
              try simp only [act_all]
              obtain ⟨t5, ht5⟩ : ∃ z, z = ((t4.setCell ⟨b13, 0, none⟩ (.int .i64 px)).setCell ⟨b13, 1, none⟩ (.int .i64 py)) := ⟨_, rfl⟩
              rw [← ht5] at A13_5 D5 A14_5 ⊢
              clear ht5 v0 v1 vf hHeld D4 A13_4 A14_4
              have hHeld := G0.out _ D5
              refine wpAnyH_ready (rs := [16]) (by kernel_rfl) (by simp) ?_
              refine AllReadyH.cons (o := _) rfl (fun K hK => ?_) AllReadyH.nil
              have v0 : t5.cell? ⟨b14, 0, none⟩ = some (.int .i64 0) := cell_of_blk A14_5 rfl
              have v1 : t5.cell? ⟨b14, 1, none⟩ = some (.int .i64 0) := cell_of_blk A14_5 rfl
              have vf : ∀ j, t5.frozen? ⟨b14, j, none⟩ = false := fun j => by simp [World.frozen?, A14_5]
              go_simp
              have A14_6 : ((t5.setCell ⟨b14, 0, none⟩ (.int .i64 qx)).setCell ⟨b14, 1, none⟩ (.int .i64 qy)).heap[b14]? = some (.cells #[.int .i64 qx, .int .i64 qy] 26 (0, 0)) := blk_set (blk_set A14_5 _) _
              have D6 : Below wo.heap.size wo ((t5.setCell ⟨b14, 0, none⟩ (.int .i64 qx)).setCell ⟨b14, 1, none⟩ (.int .i64 qy)) := (D5.setCell (p := ⟨b14, 0, none⟩) g14 _).setCell (p := ⟨b14, 1, none⟩) g14 _
              have A13_6 : ((t5.setCell ⟨b14, 0, none⟩ (.int .i64 qx)).setCell ⟨b14, 1, none⟩ (.int .i64 qy)).heap[b13]? = some (.cells #[.int .i64 px, .int .i64 py] 26 (0, 0)) := (Below.heap_setCell _ _ _ _ (show b13 ≠ b14 by omega)).trans ((Below.heap_setCell _ _ _ _ (show b13 ≠ b14 by omega)).trans A13_5)
              clear hHeld
              refine hK.out _ _ (G0.out _ D6) (fun hHeld => ?_)
              clear hK K
              try simp only [act_all]
              obtain ⟨t6, ht6⟩ : ∃ z, z = ((t5.setCell ⟨b14, 0, none⟩ (.int .i64 qx)).setCell ⟨b14, 1, none⟩ (.int .i64 qy)) := ⟨_, rfl⟩
              rw [← ht6] at A14_6 D6 A13_6 ⊢
              clear ht6 v0 v1 vf hHeld D5 A13_5 A14_5
              have hHeld := G0.out _ D6
              refine wpAnyH_done (by kernel_rfl) ?_ _
              clear hHeld
              go_wp2_with fail
              go_meet
              exact ⟨_, _, rfl, rfl, A13_6, A14_6, D6⟩
            refine AllReadyH.cons (o := _) rfl (fun K hK => ?_) AllReadyH.nil
            go_simp
            have D7 : Below wo.heap.size wo (t2.alloc (.cells #[.int .i64 0, .int .i64 0] 26)) := D2.alloc D2.size _
            have A14_7 : (t2.alloc (.cells #[.int .i64 0, .int .i64 0] 26)).heap[t2.heap.size]? = some (.cells #[.int .i64 0, .int .i64 0] 26 (0, 0)) := heap_alloc_new t2 _
            clear hHeld
            refine hK.out _ _ (G0.out _ D7) (fun hHeld => ?_)
            clear hK K
            try simp only [act_all]
            obtain ⟨b14, hb14⟩ : ∃ z, z = t2.heap.size := ⟨_, rfl⟩
            have g14 : wo.heap.size ≤ b14 := by rw [hb14]; exact D2.size
            rw [← hb14] at A14_7 ⊢
            obtain ⟨t7, ht7⟩ : ∃ z, z = (t2.alloc (.cells #[.int .i64 0, .int .i64 0] 26)) := ⟨_, rfl⟩
            rw [← ht7] at A14_7 D7 ⊢
            clear ht7 hb14 hHeld D2
            have hHeld := G0.out _ D7
            refine wpAnyH_ready (rs := [13]) (by kernel_rfl) (by simp) ?_
            refine AllReadyH.cons (o := _) rfl (fun K hK => ?_) AllReadyH.nil
            go_simp
            have D8 : Below wo.heap.size wo (t7.alloc (.cells #[.int .i64 0, .int .i64 0] 26)) := D7.alloc D7.size _
            have A13_8 : (t7.alloc (.cells #[.int .i64 0, .int .i64 0] 26)).heap[t7.heap.size]? = some (.cells #[.int .i64 0, .int .i64 0] 26 (0, 0)) := heap_alloc_new t7 _
            have A14_8 : (t7.alloc (.cells #[.int .i64 0, .int .i64 0] 26)).heap[b14]? = some (.cells #[.int .i64 0, .int .i64 0] 26 (0, 0)) := (Below.heap_alloc _ _ _ (Array.getElem?_eq_some_iff.1 A14_7).1).trans A14_7
            clear hHeld
            refine hK.out _ _ (G0.out _ D8) (fun hHeld => ?_)
            clear hK K
            try simp only [act_all]
            obtain ⟨b13, hb13⟩ : ∃ z, z = t7.heap.size := ⟨_, rfl⟩
            have g13 : wo.heap.size ≤ b13 := by rw [hb13]; exact D7.size
            have hne : b14 ≠ b13 := by have := (Array.getElem?_eq_some_iff.1 A14_7).1; omega
            rw [← hb13] at A13_8 ⊢
            obtain ⟨t8, ht8⟩ : ∃ z, z = (t7.alloc (.cells #[.int .i64 0, .int .i64 0] 26)) := ⟨_, rfl⟩
            rw [← ht8] at A13_8 D8 A14_8 ⊢
            clear ht8 hb13 hHeld D7 A14_7
            have hHeld := G0.out _ D8
            refine wpAnyH_ready (rs := [15]) (by kernel_rfl) (by simp) ?_
            refine AllReadyH.cons (o := _) rfl (fun K hK => ?_) AllReadyH.nil
            have v0 : t8.cell? ⟨b13, 0, none⟩ = some (.int .i64 0) := cell_of_blk A13_8 rfl
            have v1 : t8.cell? ⟨b13, 1, none⟩ = some (.int .i64 0) := cell_of_blk A13_8 rfl
            have vf : ∀ j, t8.frozen? ⟨b13, j, none⟩ = false := fun j => by simp [World.frozen?, A13_8]
            go_simp
            have A13_9 : ((t8.setCell ⟨b13, 0, none⟩ (.int .i64 px)).setCell ⟨b13, 1, none⟩ (.int .i64 py)).heap[b13]? = some (.cells #[.int .i64 px, .int .i64 py] 26 (0, 0)) := blk_set (blk_set A13_8 _) _
            have D9 : Below wo.heap.size wo ((t8.setCell ⟨b13, 0, none⟩ (.int .i64 px)).setCell ⟨b13, 1, none⟩ (.int .i64 py)) := (D8.setCell (p := ⟨b13, 0, none⟩) g13 _).setCell (p := ⟨b13, 1, none⟩) g13 _
            have A14_9 : ((t8.setCell ⟨b13, 0, none⟩ (.int .i64 px)).setCell ⟨b13, 1, none⟩ (.int .i64 py)).heap[b14]? = some (.cells #[.int .i64 0, .int .i64 0] 26 (0, 0)) := (Below.heap_setCell _ _ _ _ (show b14 ≠ b13 by omega)).trans ((Below.heap_setCell _ _ _ _ (show b14 ≠ b13 by omega)).trans A14_8)
            clear hHeld
            refine hK.out _ _ (G0.out _ D9) (fun hHeld => ?_)
            clear hK K
            try simp only [act_all]
            obtain ⟨t9, ht9⟩ : ∃ z, z = ((t8.setCell ⟨b13, 0, none⟩ (.int .i64 px)).setCell ⟨b13, 1, none⟩ (.int .i64 py)) := ⟨_, rfl⟩
            rw [← ht9] at A13_9 D9 A14_9 ⊢
            clear ht9 v0 v1 vf hHeld D8 A14_8 A13_8
            have hHeld := G0.out _ D9
            refine wpAnyH_ready (rs := [16]) (by kernel_rfl) (by simp) ?_
            refine AllReadyH.cons (o := _) rfl (fun K hK => ?_) AllReadyH.nil
            have v0 : t9.cell? ⟨b14, 0, none⟩ = some (.int .i64 0) := cell_of_blk A14_9 rfl
            have v1 : t9.cell? ⟨b14, 1, none⟩ = some (.int .i64 0) := cell_of_blk A14_9 rfl
            have vf : ∀ j, t9.frozen? ⟨b14, j, none⟩ = false := fun j => by simp [World.frozen?, A14_9]
            go_simp
            have A14_10 : ((t9.setCell ⟨b14, 0, none⟩ (.int .i64 qx)).setCell ⟨b14, 1, none⟩ (.int .i64 qy)).heap[b14]? = some (.cells #[.int .i64 qx, .int .i64 qy] 26 (0, 0)) := blk_set (blk_set A14_9 _) _
            have D10 : Below wo.heap.size wo ((t9.setCell ⟨b14, 0, none⟩ (.int .i64 qx)).setCell ⟨b14, 1, none⟩ (.int .i64 qy)) := (D9.setCell (p := ⟨b14, 0, none⟩) g14 _).setCell (p := ⟨b14, 1, none⟩) g14 _
            have A13_10 : ((t9.setCell ⟨b14, 0, none⟩ (.int .i64 qx)).setCell ⟨b14, 1, none⟩ (.int .i64 qy)).heap[b13]? = some (.cells #[.int .i64 px, .int .i64 py] 26 (0, 0)) := (Below.heap_setCell _ _ _ _ (show b13 ≠ b14 by omega)).trans ((Below.heap_setCell _ _ _ _ (show b13 ≠ b14 by omega)).trans A13_9)
            clear hHeld
            refine hK.out _ _ (G0.out _ D10) (fun hHeld => ?_)
            clear hK K
            try simp only [act_all]
            obtain ⟨t10, ht10⟩ : ∃ z, z = ((t9.setCell ⟨b14, 0, none⟩ (.int .i64 qx)).setCell ⟨b14, 1, none⟩ (.int .i64 qy)) := ⟨_, rfl⟩
            rw [← ht10] at A14_10 D10 A13_10 ⊢
            clear ht10 v0 v1 vf hHeld D9 A14_9 A13_9
            have hHeld := G0.out _ D10
            refine wpAnyH_done (by kernel_rfl) ?_ _
            clear hHeld
            go_wp2_with fail
            go_meet
            exact ⟨_, _, rfl, rfl, A13_10, A14_10, D10⟩
          refine AllReadyH.cons (o := _) rfl (fun K hK => ?_) ?_
          ·
            go_simp
            have D11 : Below wo.heap.size wo (t1.alloc (.cells #[.int .i64 0, .int .i64 0] 26)) := D1.alloc D1.size _
            have A13_11 : (t1.alloc (.cells #[.int .i64 0, .int .i64 0] 26)).heap[t1.heap.size]? = some (.cells #[.int .i64 0, .int .i64 0] 26 (0, 0)) := heap_alloc_new t1 _
            clear hHeld
            refine hK.out _ _ (G0.out _ D11) (fun hHeld => ?_)
            clear hK K
            try simp only [act_all]
            obtain ⟨b13, hb13⟩ : ∃ z, z = t1.heap.size := ⟨_, rfl⟩
            have g13 : wo.heap.size ≤ b13 := by rw [hb13]; exact D1.size
            rw [← hb13] at A13_11 ⊢
            obtain ⟨t11, ht11⟩ : ∃ z, z = (t1.alloc (.cells #[.int .i64 0, .int .i64 0] 26)) := ⟨_, rfl⟩
            rw [← ht11] at A13_11 D11 ⊢
            clear ht11 hb13 hHeld D1
            have hHeld := G0.out _ D11
            refine wpAnyH_ready (rs := [12, 14]) (by kernel_rfl) (by simp) ?_
            refine AllReadyH.cons (o := _) rfl (fun K hK => ?_) ?_
            ·
              go_simp
              refine (beside_any p r oo _ (by omega) (by omega) (by omega) (by omega)).mono ?_
              rw [HPX.out.2.2.1, HPX.out.2.2.2]
              rintro e_ t12 ⟨rfl, hb⟩
              have D12 : Below wo.heap.size wo t12 := D11.trans (hb.mono D11.size)
              have A13_12 : t12.heap[b13]? = some (.cells #[.int .i64 0, .int .i64 0] 26 (0, 0)) := (hb.block _ (Array.getElem?_eq_some_iff.1 A13_11).1).trans A13_11
              clear hb hHeld D11 A13_11
              refine hK.out _ _ (G0.out _ D12) (fun hHeld => ?_)
              clear hK K
              try simp only [act_all]
              refine wpAnyH_ready (rs := [14]) (by kernel_rfl) (by simp) ?_
              refine AllReadyH.cons (o := _) rfl (fun K hK => ?_) AllReadyH.nil
              go_simp
              have D13 : Below wo.heap.size wo (t12.alloc (.cells #[.int .i64 0, .int .i64 0] 26)) := D12.alloc D12.size _
              have A14_13 : (t12.alloc (.cells #[.int .i64 0, .int .i64 0] 26)).heap[t12.heap.size]? = some (.cells #[.int .i64 0, .int .i64 0] 26 (0, 0)) := heap_alloc_new t12 _
              have A13_13 : (t12.alloc (.cells #[.int .i64 0, .int .i64 0] 26)).heap[b13]? = some (.cells #[.int .i64 0, .int .i64 0] 26 (0, 0)) := (Below.heap_alloc _ _ _ (Array.getElem?_eq_some_iff.1 A13_12).1).trans A13_12
              clear hHeld
              refine hK.out _ _ (G0.out _ D13) (fun hHeld => ?_)
              clear hK K
              try simp only [act_all]
              obtain ⟨b14, hb14⟩ : ∃ z, z = t12.heap.size := ⟨_, rfl⟩
              have g14 : wo.heap.size ≤ b14 := by rw [hb14]; exact D12.size
              have hne : b13 ≠ b14 := by have := (Array.getElem?_eq_some_iff.1 A13_12).1; omega
              rw [← hb14] at A14_13 ⊢
              obtain ⟨t13, ht13⟩ : ∃ z, z = (t12.alloc (.cells #[.int .i64 0, .int .i64 0] 26)) := ⟨_, rfl⟩
              rw [← ht13] at A14_13 D13 A13_13 ⊢
              clear ht13 hb14 hHeld D12 A13_12
              have hHeld := G0.out _ D13
              refine wpAnyH_ready (rs := [15]) (by kernel_rfl) (by simp) ?_
              refine AllReadyH.cons (o := _) rfl (fun K hK => ?_) AllReadyH.nil
              have v0 : t13.cell? ⟨b13, 0, none⟩ = some (.int .i64 0) := cell_of_blk A13_13 rfl
              have v1 : t13.cell? ⟨b13, 1, none⟩ = some (.int .i64 0) := cell_of_blk A13_13 rfl
              have vf : ∀ j, t13.frozen? ⟨b13, j, none⟩ = false := fun j => by simp [World.frozen?, A13_13]
              go_simp
              have A13_14 : ((t13.setCell ⟨b13, 0, none⟩ (.int .i64 px)).setCell ⟨b13, 1, none⟩ (.int .i64 py)).heap[b13]? = some (.cells #[.int .i64 px, .int .i64 py] 26 (0, 0)) := blk_set (blk_set A13_13 _) _
              have D14 : Below wo.heap.size wo ((t13.setCell ⟨b13, 0, none⟩ (.int .i64 px)).setCell ⟨b13, 1, none⟩ (.int .i64 py)) := (D13.setCell (p := ⟨b13, 0, none⟩) g13 _).setCell (p := ⟨b13, 1, none⟩) g13 _
              have A14_14 : ((t13.setCell ⟨b13, 0, none⟩ (.int .i64 px)).setCell ⟨b13, 1, none⟩ (.int .i64 py)).heap[b14]? = some (.cells #[.int .i64 0, .int .i64 0] 26 (0, 0)) := (Below.heap_setCell _ _ _ _ (show b14 ≠ b13 by omega)).trans ((Below.heap_setCell _ _ _ _ (show b14 ≠ b13 by omega)).trans A14_13)
              clear hHeld
              refine hK.out _ _ (G0.out _ D14) (fun hHeld => ?_)
              clear hK K
              try simp only [act_all]
              obtain ⟨t14, ht14⟩ : ∃ z, z = ((t13.setCell ⟨b13, 0, none⟩ (.int .i64 px)).setCell ⟨b13, 1, none⟩ (.int .i64 py)) := ⟨_, rfl⟩
              rw [← ht14] at A13_14 D14 A14_14 ⊢
              clear ht14 v0 v1 vf hHeld D13 A13_13 A14_13
              have hHeld := G0.out _ D14
              refine wpAnyH_ready (rs := [16]) (by kernel_rfl) (by simp) ?_
              refine AllReadyH.cons (o := _) rfl (fun K hK => ?_) AllReadyH.nil
              have v0 : t14.cell? ⟨b14, 0, none⟩ = some (.int .i64 0) := cell_of_blk A14_14 rfl
              have v1 : t14.cell? ⟨b14, 1, none⟩ = some (.int .i64 0) := cell_of_blk A14_14 rfl
              have vf : ∀ j, t14.frozen? ⟨b14, j, none⟩ = false := fun j => by simp [World.frozen?, A14_14]
              go_simp
              have A14_15 : ((t14.setCell ⟨b14, 0, none⟩ (.int .i64 qx)).setCell ⟨b14, 1, none⟩ (.int .i64 qy)).heap[b14]? = some (.cells #[.int .i64 qx, .int .i64 qy] 26 (0, 0)) := blk_set (blk_set A14_14 _) _
              have D15 : Below wo.heap.size wo ((t14.setCell ⟨b14, 0, none⟩ (.int .i64 qx)).setCell ⟨b14, 1, none⟩ (.int .i64 qy)) := (D14.setCell (p := ⟨b14, 0, none⟩) g14 _).setCell (p := ⟨b14, 1, none⟩) g14 _
              have A13_15 : ((t14.setCell ⟨b14, 0, none⟩ (.int .i64 qx)).setCell ⟨b14, 1, none⟩ (.int .i64 qy)).heap[b13]? = some (.cells #[.int .i64 px, .int .i64 py] 26 (0, 0)) := (Below.heap_setCell _ _ _ _ (show b13 ≠ b14 by omega)).trans ((Below.heap_setCell _ _ _ _ (show b13 ≠ b14 by omega)).trans A13_14)
              clear hHeld
              refine hK.out _ _ (G0.out _ D15) (fun hHeld => ?_)
              clear hK K
              try simp only [act_all]
              obtain ⟨t15, ht15⟩ : ∃ z, z = ((t14.setCell ⟨b14, 0, none⟩ (.int .i64 qx)).setCell ⟨b14, 1, none⟩ (.int .i64 qy)) := ⟨_, rfl⟩
              rw [← ht15] at A14_15 D15 A13_15 ⊢
              clear ht15 v0 v1 vf hHeld D14 A13_14 A14_14
              have hHeld := G0.out _ D15
              refine wpAnyH_done (by kernel_rfl) ?_ _
              clear hHeld
              go_wp2_with fail
              go_meet
              exact ⟨_, _, rfl, rfl, A13_15, A14_15, D15⟩
            refine AllReadyH.cons (o := _) rfl (fun K hK => ?_) AllReadyH.nil
            go_simp
            have D16 : Below wo.heap.size wo (t11.alloc (.cells #[.int .i64 0, .int .i64 0] 26)) := D11.alloc D11.size _
            have A14_16 : (t11.alloc (.cells #[.int .i64 0, .int .i64 0] 26)).heap[t11.heap.size]? = some (.cells #[.int .i64 0, .int .i64 0] 26 (0, 0)) := heap_alloc_new t11 _
            have A13_16 : (t11.alloc (.cells #[.int .i64 0, .int .i64 0] 26)).heap[b13]? = some (.cells #[.int .i64 0, .int .i64 0] 26 (0, 0)) := (Below.heap_alloc _ _ _ (Array.getElem?_eq_some_iff.1 A13_11).1).trans A13_11
            clear hHeld
            refine hK.out _ _ (G0.out _ D16) (fun hHeld => ?_)
            clear hK K
            try simp only [act_all]
            obtain ⟨b14, hb14⟩ : ∃ z, z = t11.heap.size := ⟨_, rfl⟩
            have g14 : wo.heap.size ≤ b14 := by rw [hb14]; exact D11.size
            have hne : b13 ≠ b14 := by have := (Array.getElem?_eq_some_iff.1 A13_11).1; omega
            rw [← hb14] at A14_16 ⊢
            obtain ⟨t16, ht16⟩ : ∃ z, z = (t11.alloc (.cells #[.int .i64 0, .int .i64 0] 26)) := ⟨_, rfl⟩
            rw [← ht16] at A14_16 D16 A13_16 ⊢
            clear ht16 hb14 hHeld D11 A13_11
            have hHeld := G0.out _ D16
            refine wpAnyH_ready (rs := [12]) (by kernel_rfl) (by simp) ?_
            refine AllReadyH.cons (o := _) rfl (fun K hK => ?_) AllReadyH.nil
            go_simp
            refine (beside_any p r oo _ (by omega) (by omega) (by omega) (by omega)).mono ?_
            rw [HPX.out.2.2.1, HPX.out.2.2.2]
            rintro e_ t17 ⟨rfl, hb⟩
            have D17 : Below wo.heap.size wo t17 := D16.trans (hb.mono D16.size)
            have A13_17 : t17.heap[b13]? = some (.cells #[.int .i64 0, .int .i64 0] 26 (0, 0)) := (hb.block _ (Array.getElem?_eq_some_iff.1 A13_16).1).trans A13_16
            have A14_17 : t17.heap[b14]? = some (.cells #[.int .i64 0, .int .i64 0] 26 (0, 0)) := (hb.block _ (Array.getElem?_eq_some_iff.1 A14_16).1).trans A14_16
            clear hb hHeld D16 A13_16 A14_16
            refine hK.out _ _ (G0.out _ D17) (fun hHeld => ?_)
            clear hK K
            try simp only [act_all]
            refine wpAnyH_ready (rs := [15]) (by kernel_rfl) (by simp) ?_
            refine AllReadyH.cons (o := _) rfl (fun K hK => ?_) AllReadyH.nil
            have v0 : t17.cell? ⟨b13, 0, none⟩ = some (.int .i64 0) := cell_of_blk A13_17 rfl
            have v1 : t17.cell? ⟨b13, 1, none⟩ = some (.int .i64 0) := cell_of_blk A13_17 rfl
            have vf : ∀ j, t17.frozen? ⟨b13, j, none⟩ = false := fun j => by simp [World.frozen?, A13_17]
            go_simp
            have A13_18 : ((t17.setCell ⟨b13, 0, none⟩ (.int .i64 px)).setCell ⟨b13, 1, none⟩ (.int .i64 py)).heap[b13]? = some (.cells #[.int .i64 px, .int .i64 py] 26 (0, 0)) := blk_set (blk_set A13_17 _) _
            have D18 : Below wo.heap.size wo ((t17.setCell ⟨b13, 0, none⟩ (.int .i64 px)).setCell ⟨b13, 1, none⟩ (.int .i64 py)) := (D17.setCell (p := ⟨b13, 0, none⟩) g13 _).setCell (p := ⟨b13, 1, none⟩) g13 _
            have A14_18 : ((t17.setCell ⟨b13, 0, none⟩ (.int .i64 px)).setCell ⟨b13, 1, none⟩ (.int .i64 py)).heap[b14]? = some (.cells #[.int .i64 0, .int .i64 0] 26 (0, 0)) := (Below.heap_setCell _ _ _ _ (show b14 ≠ b13 by omega)).trans ((Below.heap_setCell _ _ _ _ (show b14 ≠ b13 by omega)).trans A14_17)
            clear hHeld
            refine hK.out _ _ (G0.out _ D18) (fun hHeld => ?_)
            clear hK K
            try simp only [act_all]
            obtain ⟨t18, ht18⟩ : ∃ z, z = ((t17.setCell ⟨b13, 0, none⟩ (.int .i64 px)).setCell ⟨b13, 1, none⟩ (.int .i64 py)) := ⟨_, rfl⟩
            rw [← ht18] at A13_18 D18 A14_18 ⊢
            clear ht18 v0 v1 vf hHeld D17 A13_17 A14_17
            have hHeld := G0.out _ D18
            refine wpAnyH_ready (rs := [16]) (by kernel_rfl) (by simp) ?_
            refine AllReadyH.cons (o := _) rfl (fun K hK => ?_) AllReadyH.nil
            have v0 : t18.cell? ⟨b14, 0, none⟩ = some (.int .i64 0) := cell_of_blk A14_18 rfl
            have v1 : t18.cell? ⟨b14, 1, none⟩ = some (.int .i64 0) := cell_of_blk A14_18 rfl
            have vf : ∀ j, t18.frozen? ⟨b14, j, none⟩ = false := fun j => by simp [World.frozen?, A14_18]
            go_simp
            have A14_19 : ((t18.setCell ⟨b14, 0, none⟩ (.int .i64 qx)).setCell ⟨b14, 1, none⟩ (.int .i64 qy)).heap[b14]? = some (.cells #[.int .i64 qx, .int .i64 qy] 26 (0, 0)) := blk_set (blk_set A14_18 _) _
            have D19 : Below wo.heap.size wo ((t18.setCell ⟨b14, 0, none⟩ (.int .i64 qx)).setCell ⟨b14, 1, none⟩ (.int .i64 qy)) := (D18.setCell (p := ⟨b14, 0, none⟩) g14 _).setCell (p := ⟨b14, 1, none⟩) g14 _
            have A13_19 : ((t18.setCell ⟨b14, 0, none⟩ (.int .i64 qx)).setCell ⟨b14, 1, none⟩ (.int .i64 qy)).heap[b13]? = some (.cells #[.int .i64 px, .int .i64 py] 26 (0, 0)) := (Below.heap_setCell _ _ _ _ (show b13 ≠ b14 by omega)).trans ((Below.heap_setCell _ _ _ _ (show b13 ≠ b14 by omega)).trans A13_18)
            clear hHeld
            refine hK.out _ _ (G0.out _ D19) (fun hHeld => ?_)
            clear hK K
            try simp only [act_all]
            obtain ⟨t19, ht19⟩ : ∃ z, z = ((t18.setCell ⟨b14, 0, none⟩ (.int .i64 qx)).setCell ⟨b14, 1, none⟩ (.int .i64 qy)) := ⟨_, rfl⟩
            rw [← ht19] at A14_19 D19 A13_19 ⊢
            clear ht19 v0 v1 vf hHeld D18 A13_18 A14_18
            have hHeld := G0.out _ D19
            refine wpAnyH_done (by kernel_rfl) ?_ _
            clear hHeld
            go_wp2_with fail
            go_meet
            exact ⟨_, _, rfl, rfl, A13_19, A14_19, D19⟩
          refine AllReadyH.cons (o := _) rfl (fun K hK => ?_) AllReadyH.nil
          go_simp
          have D20 : Below wo.heap.size wo (t1.alloc (.cells #[.int .i64 0, .int .i64 0] 26)) := D1.alloc D1.size _
          have A14_20 : (t1.alloc (.cells #[.int .i64 0, .int .i64 0] 26)).heap[t1.heap.size]? = some (.cells #[.int .i64 0, .int .i64 0] 26 (0, 0)) := heap_alloc_new t1 _
          clear hHeld
          refine hK.out _ _ (G0.out _ D20) (fun hHeld => ?_)
          clear hK K
          try simp only [act_all]
          obtain ⟨b14, hb14⟩ : ∃ z, z = t1.heap.size := ⟨_, rfl⟩
          have g14 : wo.heap.size ≤ b14 := by rw [hb14]; exact D1.size
          rw [← hb14] at A14_20 ⊢
          obtain ⟨t20, ht20⟩ : ∃ z, z = (t1.alloc (.cells #[.int .i64 0, .int .i64 0] 26)) := ⟨_, rfl⟩
          rw [← ht20] at A14_20 D20 ⊢
          clear ht20 hb14 hHeld D1
          have hHeld := G0.out _ D20
          refine wpAnyH_ready (rs := [12, 13]) (by kernel_rfl) (by simp) ?_
          refine AllReadyH.cons (o := _) rfl (fun K hK => ?_) ?_
          ·
            go_simp
            refine (beside_any p r oo _ (by omega) (by omega) (by omega) (by omega)).mono ?_
            rw [HPX.out.2.2.1, HPX.out.2.2.2]
            rintro e_ t21 ⟨rfl, hb⟩
            have D21 : Below wo.heap.size wo t21 := D20.trans (hb.mono D20.size)
            have A14_21 : t21.heap[b14]? = some (.cells #[.int .i64 0, .int .i64 0] 26 (0, 0)) := (hb.block _ (Array.getElem?_eq_some_iff.1 A14_20).1).trans A14_20
            clear hb hHeld D20 A14_20
            refine hK.out _ _ (G0.out _ D21) (fun hHeld => ?_)
            clear hK K
            try simp only [act_all]
            refine wpAnyH_ready (rs := [13]) (by kernel_rfl) (by simp) ?_
            refine AllReadyH.cons (o := _) rfl (fun K hK => ?_) AllReadyH.nil
            go_simp
            have D22 : Below wo.heap.size wo (t21.alloc (.cells #[.int .i64 0, .int .i64 0] 26)) := D21.alloc D21.size _
            have A13_22 : (t21.alloc (.cells #[.int .i64 0, .int .i64 0] 26)).heap[t21.heap.size]? = some (.cells #[.int .i64 0, .int .i64 0] 26 (0, 0)) := heap_alloc_new t21 _
            have A14_22 : (t21.alloc (.cells #[.int .i64 0, .int .i64 0] 26)).heap[b14]? = some (.cells #[.int .i64 0, .int .i64 0] 26 (0, 0)) := (Below.heap_alloc _ _ _ (Array.getElem?_eq_some_iff.1 A14_21).1).trans A14_21
            clear hHeld
            refine hK.out _ _ (G0.out _ D22) (fun hHeld => ?_)
            clear hK K
            try simp only [act_all]
            obtain ⟨b13, hb13⟩ : ∃ z, z = t21.heap.size := ⟨_, rfl⟩
            have g13 : wo.heap.size ≤ b13 := by rw [hb13]; exact D21.size
            have hne : b14 ≠ b13 := by have := (Array.getElem?_eq_some_iff.1 A14_21).1; omega
            rw [← hb13] at A13_22 ⊢
            obtain ⟨t22, ht22⟩ : ∃ z, z = (t21.alloc (.cells #[.int .i64 0, .int .i64 0] 26)) := ⟨_, rfl⟩
            rw [← ht22] at A13_22 D22 A14_22 ⊢
            clear ht22 hb13 hHeld D21 A14_21
            have hHeld := G0.out _ D22
            refine wpAnyH_ready (rs := [15]) (by kernel_rfl) (by simp) ?_
            refine AllReadyH.cons (o := _) rfl (fun K hK => ?_) AllReadyH.nil
            have v0 : t22.cell? ⟨b13, 0, none⟩ = some (.int .i64 0) := cell_of_blk A13_22 rfl
            have v1 : t22.cell? ⟨b13, 1, none⟩ = some (.int .i64 0) := cell_of_blk A13_22 rfl
            have vf : ∀ j, t22.frozen? ⟨b13, j, none⟩ = false := fun j => by simp [World.frozen?, A13_22]
            go_simp
            have A13_23 : ((t22.setCell ⟨b13, 0, none⟩ (.int .i64 px)).setCell ⟨b13, 1, none⟩ (.int .i64 py)).heap[b13]? = some (.cells #[.int .i64 px, .int .i64 py] 26 (0, 0)) := blk_set (blk_set A13_22 _) _
            have D23 : Below wo.heap.size wo ((t22.setCell ⟨b13, 0, none⟩ (.int .i64 px)).setCell ⟨b13, 1, none⟩ (.int .i64 py)) := (D22.setCell (p := ⟨b13, 0, none⟩) g13 _).setCell (p := ⟨b13, 1, none⟩) g13 _
            have A14_23 : ((t22.setCell ⟨b13, 0, none⟩ (.int .i64 px)).setCell ⟨b13, 1, none⟩ (.int .i64 py)).heap[b14]? = some (.cells #[.int .i64 0, .int .i64 0] 26 (0, 0)) := (Below.heap_setCell _ _ _ _ (show b14 ≠ b13 by omega)).trans ((Below.heap_setCell _ _ _ _ (show b14 ≠ b13 by omega)).trans A14_22)
            clear hHeld
            refine hK.out _ _ (G0.out _ D23) (fun hHeld => ?_)
            clear hK K
            try simp only [act_all]
            obtain ⟨t23, ht23⟩ : ∃ z, z = ((t22.setCell ⟨b13, 0, none⟩ (.int .i64 px)).setCell ⟨b13, 1, none⟩ (.int .i64 py)) := ⟨_, rfl⟩
            rw [← ht23] at A13_23 D23 A14_23 ⊢
            clear ht23 v0 v1 vf hHeld D22 A14_22 A13_22
            have hHeld := G0.out _ D23
            refine wpAnyH_ready (rs := [16]) (by kernel_rfl) (by simp) ?_
            refine AllReadyH.cons (o := _) rfl (fun K hK => ?_) AllReadyH.nil
            have v0 : t23.cell? ⟨b14, 0, none⟩ = some (.int .i64 0) := cell_of_blk A14_23 rfl
            have v1 : t23.cell? ⟨b14, 1, none⟩ = some (.int .i64 0) := cell_of_blk A14_23 rfl
            have vf : ∀ j, t23.frozen? ⟨b14, j, none⟩ = false := fun j => by simp [World.frozen?, A14_23]
            go_simp
            have A14_24 : ((t23.setCell ⟨b14, 0, none⟩ (.int .i64 qx)).setCell ⟨b14, 1, none⟩ (.int .i64 qy)).heap[b14]? = some (.cells #[.int .i64 qx, .int .i64 qy] 26 (0, 0)) := blk_set (blk_set A14_23 _) _
            have D24 : Below wo.heap.size wo ((t23.setCell ⟨b14, 0, none⟩ (.int .i64 qx)).setCell ⟨b14, 1, none⟩ (.int .i64 qy)) := (D23.setCell (p := ⟨b14, 0, none⟩) g14 _).setCell (p := ⟨b14, 1, none⟩) g14 _
            have A13_24 : ((t23.setCell ⟨b14, 0, none⟩ (.int .i64 qx)).setCell ⟨b14, 1, none⟩ (.int .i64 qy)).heap[b13]? = some (.cells #[.int .i64 px, .int .i64 py] 26 (0, 0)) := (Below.heap_setCell _ _ _ _ (show b13 ≠ b14 by omega)).trans ((Below.heap_setCell _ _ _ _ (show b13 ≠ b14 by omega)).trans A13_23)
            clear hHeld
            refine hK.out _ _ (G0.out _ D24) (fun hHeld => ?_)
            clear hK K
            try simp only [act_all]
            obtain ⟨t24, ht24⟩ : ∃ z, z = ((t23.setCell ⟨b14, 0, none⟩ (.int .i64 qx)).setCell ⟨b14, 1, none⟩ (.int .i64 qy)) := ⟨_, rfl⟩
            rw [← ht24] at A14_24 D24 A13_24 ⊢
            clear ht24 v0 v1 vf hHeld D23 A14_23 A13_23
            have hHeld := G0.out _ D24
            refine wpAnyH_done (by kernel_rfl) ?_ _
            clear hHeld
            go_wp2_with fail
            go_meet
            exact ⟨_, _, rfl, rfl, A13_24, A14_24, D24⟩
          refine AllReadyH.cons (o := _) rfl (fun K hK => ?_) AllReadyH.nil
          go_simp
          have D25 : Below wo.heap.size wo (t20.alloc (.cells #[.int .i64 0, .int .i64 0] 26)) := D20.alloc D20.size _
          have A13_25 : (t20.alloc (.cells #[.int .i64 0, .int .i64 0] 26)).heap[t20.heap.size]? = some (.cells #[.int .i64 0, .int .i64 0] 26 (0, 0)) := heap_alloc_new t20 _
          have A14_25 : (t20.alloc (.cells #[.int .i64 0, .int .i64 0] 26)).heap[b14]? = some (.cells #[.int .i64 0, .int .i64 0] 26 (0, 0)) := (Below.heap_alloc _ _ _ (Array.getElem?_eq_some_iff.1 A14_20).1).trans A14_20
          clear hHeld
          refine hK.out _ _ (G0.out _ D25) (fun hHeld => ?_)
          clear hK K
          try simp only [act_all]
          obtain ⟨b13, hb13⟩ : ∃ z, z = t20.heap.size := ⟨_, rfl⟩
          have g13 : wo.heap.size ≤ b13 := by rw [hb13]; exact D20.size
          have hne : b14 ≠ b13 := by have := (Array.getElem?_eq_some_iff.1 A14_20).1; omega
          rw [← hb13] at A13_25 ⊢
          obtain ⟨t25, ht25⟩ : ∃ z, z = (t20.alloc (.cells #[.int .i64 0, .int .i64 0] 26)) := ⟨_, rfl⟩
          rw [← ht25] at A13_25 D25 A14_25 ⊢
          clear ht25 hb13 hHeld D20 A14_20
          have hHeld := G0.out _ D25
          refine wpAnyH_ready (rs := [12]) (by kernel_rfl) (by simp) ?_
          refine AllReadyH.cons (o := _) rfl (fun K hK => ?_) AllReadyH.nil
          go_simp
          refine (beside_any p r oo _ (by omega) (by omega) (by omega) (by omega)).mono ?_
          rw [HPX.out.2.2.1, HPX.out.2.2.2]
          rintro e_ t26 ⟨rfl, hb⟩
          have D26 : Below wo.heap.size wo t26 := D25.trans (hb.mono D25.size)
          have A14_26 : t26.heap[b14]? = some (.cells #[.int .i64 0, .int .i64 0] 26 (0, 0)) := (hb.block _ (Array.getElem?_eq_some_iff.1 A14_25).1).trans A14_25
          have A13_26 : t26.heap[b13]? = some (.cells #[.int .i64 0, .int .i64 0] 26 (0, 0)) := (hb.block _ (Array.getElem?_eq_some_iff.1 A13_25).1).trans A13_25
          clear hb hHeld D25 A14_25 A13_25
          refine hK.out _ _ (G0.out _ D26) (fun hHeld => ?_)
          clear hK K
          try simp only [act_all]
          refine wpAnyH_ready (rs := [15]) (by kernel_rfl) (by simp) ?_
          refine AllReadyH.cons (o := _) rfl (fun K hK => ?_) AllReadyH.nil
          have v0 : t26.cell? ⟨b13, 0, none⟩ = some (.int .i64 0) := cell_of_blk A13_26 rfl
          have v1 : t26.cell? ⟨b13, 1, none⟩ = some (.int .i64 0) := cell_of_blk A13_26 rfl
          have vf : ∀ j, t26.frozen? ⟨b13, j, none⟩ = false := fun j => by simp [World.frozen?, A13_26]
          go_simp
          have A13_27 : ((t26.setCell ⟨b13, 0, none⟩ (.int .i64 px)).setCell ⟨b13, 1, none⟩ (.int .i64 py)).heap[b13]? = some (.cells #[.int .i64 px, .int .i64 py] 26 (0, 0)) := blk_set (blk_set A13_26 _) _
          have D27 : Below wo.heap.size wo ((t26.setCell ⟨b13, 0, none⟩ (.int .i64 px)).setCell ⟨b13, 1, none⟩ (.int .i64 py)) := (D26.setCell (p := ⟨b13, 0, none⟩) g13 _).setCell (p := ⟨b13, 1, none⟩) g13 _
          have A14_27 : ((t26.setCell ⟨b13, 0, none⟩ (.int .i64 px)).setCell ⟨b13, 1, none⟩ (.int .i64 py)).heap[b14]? = some (.cells #[.int .i64 0, .int .i64 0] 26 (0, 0)) := (Below.heap_setCell _ _ _ _ (show b14 ≠ b13 by omega)).trans ((Below.heap_setCell _ _ _ _ (show b14 ≠ b13 by omega)).trans A14_26)
          clear hHeld
          refine hK.out _ _ (G0.out _ D27) (fun hHeld => ?_)
          clear hK K
          try simp only [act_all]
          obtain ⟨t27, ht27⟩ : ∃ z, z = ((t26.setCell ⟨b13, 0, none⟩ (.int .i64 px)).setCell ⟨b13, 1, none⟩ (.int .i64 py)) := ⟨_, rfl⟩
          rw [← ht27] at A13_27 D27 A14_27 ⊢
          clear ht27 v0 v1 vf hHeld D26 A14_26 A13_26
          have hHeld := G0.out _ D27
          refine wpAnyH_ready (rs := [16]) (by kernel_rfl) (by simp) ?_
          refine AllReadyH.cons (o := _) rfl (fun K hK => ?_) AllReadyH.nil
          have v0 : t27.cell? ⟨b14, 0, none⟩ = some (.int .i64 0) := cell_of_blk A14_27 rfl
          have v1 : t27.cell? ⟨b14, 1, none⟩ = some (.int .i64 0) := cell_of_blk A14_27 rfl
          have vf : ∀ j, t27.frozen? ⟨b14, j, none⟩ = false := fun j => by simp [World.frozen?, A14_27]
          go_simp
          have A14_28 : ((t27.setCell ⟨b14, 0, none⟩ (.int .i64 qx)).setCell ⟨b14, 1, none⟩ (.int .i64 qy)).heap[b14]? = some (.cells #[.int .i64 qx, .int .i64 qy] 26 (0, 0)) := blk_set (blk_set A14_27 _) _
          have D28 : Below wo.heap.size wo ((t27.setCell ⟨b14, 0, none⟩ (.int .i64 qx)).setCell ⟨b14, 1, none⟩ (.int .i64 qy)) := (D27.setCell (p := ⟨b14, 0, none⟩) g14 _).setCell (p := ⟨b14, 1, none⟩) g14 _
          have A13_28 : ((t27.setCell ⟨b14, 0, none⟩ (.int .i64 qx)).setCell ⟨b14, 1, none⟩ (.int .i64 qy)).heap[b13]? = some (.cells #[.int .i64 px, .int .i64 py] 26 (0, 0)) := (Below.heap_setCell _ _ _ _ (show b13 ≠ b14 by omega)).trans ((Below.heap_setCell _ _ _ _ (show b13 ≠ b14 by omega)).trans A13_27)
          clear hHeld
          refine hK.out _ _ (G0.out _ D28) (fun hHeld => ?_)
          clear hK K
          try simp only [act_all]
          obtain ⟨t28, ht28⟩ : ∃ z, z = ((t27.setCell ⟨b14, 0, none⟩ (.int .i64 qx)).setCell ⟨b14, 1, none⟩ (.int .i64 qy)) := ⟨_, rfl⟩
          rw [← ht28] at A14_28 D28 A13_28 ⊢
          clear ht28 v0 v1 vf hHeld D27 A14_27 A13_27
          have hHeld := G0.out _ D28
          refine wpAnyH_done (by kernel_rfl) ?_ _
          clear hHeld
          go_wp2_with fail
          go_meet
          exact ⟨_, _, rfl, rfl, A13_28, A14_28, D28⟩
        refine AllReadyH.cons (o := _) rfl (fun K hK => ?_) ?_
        ·
          go_simp
          have D29 : Below wo.heap.size wo (t0.alloc (.cells #[.int .i64 0, .int .i64 0] 26)) := D0.alloc D0.size _
          have A13_29 : (t0.alloc (.cells #[.int .i64 0, .int .i64 0] 26)).heap[t0.heap.size]? = some (.cells #[.int .i64 0, .int .i64 0] 26 (0, 0)) := heap_alloc_new t0 _
          clear hHeld
          refine hK.out _ _ (G0.out _ D29) (fun hHeld => ?_)
          clear hK K
          try simp only [act_all]
          obtain ⟨b13, hb13⟩ : ∃ z, z = t0.heap.size := ⟨_, rfl⟩
          have g13 : wo.heap.size ≤ b13 := by rw [hb13]; exact D0.size
          rw [← hb13] at A13_29 ⊢
          obtain ⟨t29, ht29⟩ : ∃ z, z = (t0.alloc (.cells #[.int .i64 0, .int .i64 0] 26)) := ⟨_, rfl⟩
          rw [← ht29] at A13_29 D29 ⊢
          clear ht29 hb13 hHeld D0
          have hHeld := G0.out _ D29
          refine wpAnyH_ready (rs := [5, 14]) (by kernel_rfl) (by simp) ?_
          refine AllReadyH.cons (o := _) rfl (fun K hK => ?_) ?_
          ·
            go_simp
            refine (beside_any x y oo _ (by omega) (by omega) (by omega) (by omega)).mono ?_
            rw [HPX.out.1, HPX.out.2.1]
            rintro e_ t30 ⟨rfl, hb⟩
            have D30 : Below wo.heap.size wo t30 := D29.trans (hb.mono D29.size)
            have A13_30 : t30.heap[b13]? = some (.cells #[.int .i64 0, .int .i64 0] 26 (0, 0)) := (hb.block _ (Array.getElem?_eq_some_iff.1 A13_29).1).trans A13_29
            clear hb hHeld D29 A13_29
            refine hK.out _ _ (G0.out _ D30) (fun hHeld => ?_)
            clear hK K
            try simp only [act_all]
            refine wpAnyH_ready (rs := [12, 14]) (by kernel_rfl) (by simp) ?_
            refine AllReadyH.cons (o := _) rfl (fun K hK => ?_) ?_
            ·
              go_simp
              refine (beside_any p r oo _ (by omega) (by omega) (by omega) (by omega)).mono ?_
              rw [HPX.out.2.2.1, HPX.out.2.2.2]
              rintro e_ t31 ⟨rfl, hb⟩
              have D31 : Below wo.heap.size wo t31 := D30.trans (hb.mono D30.size)
              have A13_31 : t31.heap[b13]? = some (.cells #[.int .i64 0, .int .i64 0] 26 (0, 0)) := (hb.block _ (Array.getElem?_eq_some_iff.1 A13_30).1).trans A13_30
              clear hb hHeld D30 A13_30
              refine hK.out _ _ (G0.out _ D31) (fun hHeld => ?_)
              clear hK K
              try simp only [act_all]
              refine wpAnyH_ready (rs := [14]) (by kernel_rfl) (by simp) ?_
              refine AllReadyH.cons (o := _) rfl (fun K hK => ?_) AllReadyH.nil
              go_simp
              have D32 : Below wo.heap.size wo (t31.alloc (.cells #[.int .i64 0, .int .i64 0] 26)) := D31.alloc D31.size _
              have A14_32 : (t31.alloc (.cells #[.int .i64 0, .int .i64 0] 26)).heap[t31.heap.size]? = some (.cells #[.int .i64 0, .int .i64 0] 26 (0, 0)) := heap_alloc_new t31 _
              have A13_32 : (t31.alloc (.cells #[.int .i64 0, .int .i64 0] 26)).heap[b13]? = some (.cells #[.int .i64 0, .int .i64 0] 26 (0, 0)) := (Below.heap_alloc _ _ _ (Array.getElem?_eq_some_iff.1 A13_31).1).trans A13_31
              clear hHeld
              refine hK.out _ _ (G0.out _ D32) (fun hHeld => ?_)
              clear hK K
              try simp only [act_all]
              obtain ⟨b14, hb14⟩ : ∃ z, z = t31.heap.size := ⟨_, rfl⟩
              have g14 : wo.heap.size ≤ b14 := by rw [hb14]; exact D31.size
              have hne : b13 ≠ b14 := by have := (Array.getElem?_eq_some_iff.1 A13_31).1; omega
              rw [← hb14] at A14_32 ⊢
              obtain ⟨t32, ht32⟩ : ∃ z, z = (t31.alloc (.cells #[.int .i64 0, .int .i64 0] 26)) := ⟨_, rfl⟩
              rw [← ht32] at A14_32 D32 A13_32 ⊢
              clear ht32 hb14 hHeld D31 A13_31
              have hHeld := G0.out _ D32
              refine wpAnyH_ready (rs := [15]) (by kernel_rfl) (by simp) ?_
              refine AllReadyH.cons (o := _) rfl (fun K hK => ?_) AllReadyH.nil
              have v0 : t32.cell? ⟨b13, 0, none⟩ = some (.int .i64 0) := cell_of_blk A13_32 rfl
              have v1 : t32.cell? ⟨b13, 1, none⟩ = some (.int .i64 0) := cell_of_blk A13_32 rfl
              have vf : ∀ j, t32.frozen? ⟨b13, j, none⟩ = false := fun j => by simp [World.frozen?, A13_32]
              go_simp
              have A13_33 : ((t32.setCell ⟨b13, 0, none⟩ (.int .i64 px)).setCell ⟨b13, 1, none⟩ (.int .i64 py)).heap[b13]? = some (.cells #[.int .i64 px, .int .i64 py] 26 (0, 0)) := blk_set (blk_set A13_32 _) _
              have D33 : Below wo.heap.size wo ((t32.setCell ⟨b13, 0, none⟩ (.int .i64 px)).setCell ⟨b13, 1, none⟩ (.int .i64 py)) := (D32.setCell (p := ⟨b13, 0, none⟩) g13 _).setCell (p := ⟨b13, 1, none⟩) g13 _
              have A14_33 : ((t32.setCell ⟨b13, 0, none⟩ (.int .i64 px)).setCell ⟨b13, 1, none⟩ (.int .i64 py)).heap[b14]? = some (.cells #[.int .i64 0, .int .i64 0] 26 (0, 0)) := (Below.heap_setCell _ _ _ _ (show b14 ≠ b13 by omega)).trans ((Below.heap_setCell _ _ _ _ (show b14 ≠ b13 by omega)).trans A14_32)
              clear hHeld
              refine hK.out _ _ (G0.out _ D33) (fun hHeld => ?_)
              clear hK K
              try simp only [act_all]
              obtain ⟨t33, ht33⟩ : ∃ z, z = ((t32.setCell ⟨b13, 0, none⟩ (.int .i64 px)).setCell ⟨b13, 1, none⟩ (.int .i64 py)) := ⟨_, rfl⟩
              rw [← ht33] at A13_33 D33 A14_33 ⊢
              clear ht33 v0 v1 vf hHeld D32 A13_32 A14_32
              have hHeld := G0.out _ D33
              refine wpAnyH_ready (rs := [16]) (by kernel_rfl) (by simp) ?_
              refine AllReadyH.cons (o := _) rfl (fun K hK => ?_) AllReadyH.nil
              have v0 : t33.cell? ⟨b14, 0, none⟩ = some (.int .i64 0) := cell_of_blk A14_33 rfl
              have v1 : t33.cell? ⟨b14, 1, none⟩ = some (.int .i64 0) := cell_of_blk A14_33 rfl
              have vf : ∀ j, t33.frozen? ⟨b14, j, none⟩ = false := fun j => by simp [World.frozen?, A14_33]
              go_simp
              have A14_34 : ((t33.setCell ⟨b14, 0, none⟩ (.int .i64 qx)).setCell ⟨b14, 1, none⟩ (.int .i64 qy)).heap[b14]? = some (.cells #[.int .i64 qx, .int .i64 qy] 26 (0, 0)) := blk_set (blk_set A14_33 _) _
              have D34 : Below wo.heap.size wo ((t33.setCell ⟨b14, 0, none⟩ (.int .i64 qx)).setCell ⟨b14, 1, none⟩ (.int .i64 qy)) := (D33.setCell (p := ⟨b14, 0, none⟩) g14 _).setCell (p := ⟨b14, 1, none⟩) g14 _
              have A13_34 : ((t33.setCell ⟨b14, 0, none⟩ (.int .i64 qx)).setCell ⟨b14, 1, none⟩ (.int .i64 qy)).heap[b13]? = some (.cells #[.int .i64 px, .int .i64 py] 26 (0, 0)) := (Below.heap_setCell _ _ _ _ (show b13 ≠ b14 by omega)).trans ((Below.heap_setCell _ _ _ _ (show b13 ≠ b14 by omega)).trans A13_33)
              clear hHeld
              refine hK.out _ _ (G0.out _ D34) (fun hHeld => ?_)
              clear hK K
              try simp only [act_all]
              obtain ⟨t34, ht34⟩ : ∃ z, z = ((t33.setCell ⟨b14, 0, none⟩ (.int .i64 qx)).setCell ⟨b14, 1, none⟩ (.int .i64 qy)) := ⟨_, rfl⟩
              rw [← ht34] at A14_34 D34 A13_34 ⊢
              clear ht34 v0 v1 vf hHeld D33 A13_33 A14_33
              have hHeld := G0.out _ D34
              refine wpAnyH_done (by kernel_rfl) ?_ _
              clear hHeld
              go_wp2_with fail
              go_meet
              exact ⟨_, _, rfl, rfl, A13_34, A14_34, D34⟩
            refine AllReadyH.cons (o := _) rfl (fun K hK => ?_) AllReadyH.nil
            go_simp
            have D35 : Below wo.heap.size wo (t30.alloc (.cells #[.int .i64 0, .int .i64 0] 26)) := D30.alloc D30.size _
            have A14_35 : (t30.alloc (.cells #[.int .i64 0, .int .i64 0] 26)).heap[t30.heap.size]? = some (.cells #[.int .i64 0, .int .i64 0] 26 (0, 0)) := heap_alloc_new t30 _
            have A13_35 : (t30.alloc (.cells #[.int .i64 0, .int .i64 0] 26)).heap[b13]? = some (.cells #[.int .i64 0, .int .i64 0] 26 (0, 0)) := (Below.heap_alloc _ _ _ (Array.getElem?_eq_some_iff.1 A13_30).1).trans A13_30
            clear hHeld
            refine hK.out _ _ (G0.out _ D35) (fun hHeld => ?_)
            clear hK K
            try simp only [act_all]
            obtain ⟨b14, hb14⟩ : ∃ z, z = t30.heap.size := ⟨_, rfl⟩
            have g14 : wo.heap.size ≤ b14 := by rw [hb14]; exact D30.size
            have hne : b13 ≠ b14 := by have := (Array.getElem?_eq_some_iff.1 A13_30).1; omega
            rw [← hb14] at A14_35 ⊢
            obtain ⟨t35, ht35⟩ : ∃ z, z = (t30.alloc (.cells #[.int .i64 0, .int .i64 0] 26)) := ⟨_, rfl⟩
            rw [← ht35] at A14_35 D35 A13_35 ⊢
            clear ht35 hb14 hHeld D30 A13_30
            have hHeld := G0.out _ D35
            refine wpAnyH_ready (rs := [12]) (by kernel_rfl) (by simp) ?_
            refine AllReadyH.cons (o := _) rfl (fun K hK => ?_) AllReadyH.nil
            go_simp
            refine (beside_any p r oo _ (by omega) (by omega) (by omega) (by omega)).mono ?_
            rw [HPX.out.2.2.1, HPX.out.2.2.2]
            rintro e_ t36 ⟨rfl, hb⟩
            have D36 : Below wo.heap.size wo t36 := D35.trans (hb.mono D35.size)
            have A13_36 : t36.heap[b13]? = some (.cells #[.int .i64 0, .int .i64 0] 26 (0, 0)) := (hb.block _ (Array.getElem?_eq_some_iff.1 A13_35).1).trans A13_35
            have A14_36 : t36.heap[b14]? = some (.cells #[.int .i64 0, .int .i64 0] 26 (0, 0)) := (hb.block _ (Array.getElem?_eq_some_iff.1 A14_35).1).trans A14_35
            clear hb hHeld D35 A13_35 A14_35
            refine hK.out _ _ (G0.out _ D36) (fun hHeld => ?_)
            clear hK K
            try simp only [act_all]
            refine wpAnyH_ready (rs := [15]) (by kernel_rfl) (by simp) ?_
            refine AllReadyH.cons (o := _) rfl (fun K hK => ?_) AllReadyH.nil
            have v0 : t36.cell? ⟨b13, 0, none⟩ = some (.int .i64 0) := cell_of_blk A13_36 rfl
            have v1 : t36.cell? ⟨b13, 1, none⟩ = some (.int .i64 0) := cell_of_blk A13_36 rfl
            have vf : ∀ j, t36.frozen? ⟨b13, j, none⟩ = false := fun j => by simp [World.frozen?, A13_36]
            go_simp
            have A13_37 : ((t36.setCell ⟨b13, 0, none⟩ (.int .i64 px)).setCell ⟨b13, 1, none⟩ (.int .i64 py)).heap[b13]? = some (.cells #[.int .i64 px, .int .i64 py] 26 (0, 0)) := blk_set (blk_set A13_36 _) _
            have D37 : Below wo.heap.size wo ((t36.setCell ⟨b13, 0, none⟩ (.int .i64 px)).setCell ⟨b13, 1, none⟩ (.int .i64 py)) := (D36.setCell (p := ⟨b13, 0, none⟩) g13 _).setCell (p := ⟨b13, 1, none⟩) g13 _
            have A14_37 : ((t36.setCell ⟨b13, 0, none⟩ (.int .i64 px)).setCell ⟨b13, 1, none⟩ (.int .i64 py)).heap[b14]? = some (.cells #[.int .i64 0, .int .i64 0] 26 (0, 0)) := (Below.heap_setCell _ _ _ _ (show b14 ≠ b13 by omega)).trans ((Below.heap_setCell _ _ _ _ (show b14 ≠ b13 by omega)).trans A14_36)
            clear hHeld
            refine hK.out _ _ (G0.out _ D37) (fun hHeld => ?_)
            clear hK K
            try simp only [act_all]
            obtain ⟨t37, ht37⟩ : ∃ z, z = ((t36.setCell ⟨b13, 0, none⟩ (.int .i64 px)).setCell ⟨b13, 1, none⟩ (.int .i64 py)) := ⟨_, rfl⟩
            rw [← ht37] at A13_37 D37 A14_37 ⊢
            clear ht37 v0 v1 vf hHeld D36 A13_36 A14_36
            have hHeld := G0.out _ D37
            refine wpAnyH_ready (rs := [16]) (by kernel_rfl) (by simp) ?_
            refine AllReadyH.cons (o := _) rfl (fun K hK => ?_) AllReadyH.nil
            have v0 : t37.cell? ⟨b14, 0, none⟩ = some (.int .i64 0) := cell_of_blk A14_37 rfl
            have v1 : t37.cell? ⟨b14, 1, none⟩ = some (.int .i64 0) := cell_of_blk A14_37 rfl
            have vf : ∀ j, t37.frozen? ⟨b14, j, none⟩ = false := fun j => by simp [World.frozen?, A14_37]
            go_simp
            have A14_38 : ((t37.setCell ⟨b14, 0, none⟩ (.int .i64 qx)).setCell ⟨b14, 1, none⟩ (.int .i64 qy)).heap[b14]? = some (.cells #[.int .i64 qx, .int .i64 qy] 26 (0, 0)) := blk_set (blk_set A14_37 _) _
            have D38 : Below wo.heap.size wo ((t37.setCell ⟨b14, 0, none⟩ (.int .i64 qx)).setCell ⟨b14, 1, none⟩ (.int .i64 qy)) := (D37.setCell (p := ⟨b14, 0, none⟩) g14 _).setCell (p := ⟨b14, 1, none⟩) g14 _
            have A13_38 : ((t37.setCell ⟨b14, 0, none⟩ (.int .i64 qx)).setCell ⟨b14, 1, none⟩ (.int .i64 qy)).heap[b13]? = some (.cells #[.int .i64 px, .int .i64 py] 26 (0, 0)) := (Below.heap_setCell _ _ _ _ (show b13 ≠ b14 by omega)).trans ((Below.heap_setCell _ _ _ _ (show b13 ≠ b14 by omega)).trans A13_37)
            clear hHeld
            refine hK.out _ _ (G0.out _ D38) (fun hHeld => ?_)
            clear hK K
            try simp only [act_all]
            obtain ⟨t38, ht38⟩ : ∃ z, z = ((t37.setCell ⟨b14, 0, none⟩ (.int .i64 qx)).setCell ⟨b14, 1, none⟩ (.int .i64 qy)) := ⟨_, rfl⟩
            rw [← ht38] at A14_38 D38 A13_38 ⊢
            clear ht38 v0 v1 vf hHeld D37 A13_37 A14_37
            have hHeld := G0.out _ D38
            refine wpAnyH_done (by kernel_rfl) ?_ _
            clear hHeld
            go_wp2_with fail
            go_meet
            exact ⟨_, _, rfl, rfl, A13_38, A14_38, D38⟩
          refine AllReadyH.cons (o := _) rfl (fun K hK => ?_) AllReadyH.nil
          go_simp
          have D39 : Below wo.heap.size wo (t29.alloc (.cells #[.int .i64 0, .int .i64 0] 26)) := D29.alloc D29.size _
          have A14_39 : (t29.alloc (.cells #[.int .i64 0, .int .i64 0] 26)).heap[t29.heap.size]? = some (.cells #[.int .i64 0, .int .i64 0] 26 (0, 0)) := heap_alloc_new t29 _
          have A13_39 : (t29.alloc (.cells #[.int .i64 0, .int .i64 0] 26)).heap[b13]? = some (.cells #[.int .i64 0, .int .i64 0] 26 (0, 0)) := (Below.heap_alloc _ _ _ (Array.getElem?_eq_some_iff.1 A13_29).1).trans A13_29
          clear hHeld
          refine hK.out _ _ (G0.out _ D39) (fun hHeld => ?_)
          clear hK K
          try simp only [act_all]
          obtain ⟨b14, hb14⟩ : ∃ z, z = t29.heap.size := ⟨_, rfl⟩
          have g14 : wo.heap.size ≤ b14 := by rw [hb14]; exact D29.size
          have hne : b13 ≠ b14 := by have := (Array.getElem?_eq_some_iff.1 A13_29).1; omega
          rw [← hb14] at A14_39 ⊢
          obtain ⟨t39, ht39⟩ : ∃ z, z = (t29.alloc (.cells #[.int .i64 0, .int .i64 0] 26)) := ⟨_, rfl⟩
          rw [← ht39] at A14_39 D39 A13_39 ⊢
          clear ht39 hb14 hHeld D29 A13_29
          have hHeld := G0.out _ D39
          refine wpAnyH_ready (rs := [5]) (by kernel_rfl) (by simp) ?_
          refine AllReadyH.cons (o := _) rfl (fun K hK => ?_) AllReadyH.nil
          go_simp
          refine (beside_any x y oo _ (by omega) (by omega) (by omega) (by omega)).mono ?_
          rw [HPX.out.1, HPX.out.2.1]
          rintro e_ t40 ⟨rfl, hb⟩
          have D40 : Below wo.heap.size wo t40 := D39.trans (hb.mono D39.size)
          have A13_40 : t40.heap[b13]? = some (.cells #[.int .i64 0, .int .i64 0] 26 (0, 0)) := (hb.block _ (Array.getElem?_eq_some_iff.1 A13_39).1).trans A13_39
          have A14_40 : t40.heap[b14]? = some (.cells #[.int .i64 0, .int .i64 0] 26 (0, 0)) := (hb.block _ (Array.getElem?_eq_some_iff.1 A14_39).1).trans A14_39
          clear hb hHeld D39 A13_39 A14_39
          refine hK.out _ _ (G0.out _ D40) (fun hHeld => ?_)
          clear hK K
          try simp only [act_all]
          refine wpAnyH_ready (rs := [12]) (by kernel_rfl) (by simp) ?_
          refine AllReadyH.cons (o := _) rfl (fun K hK => ?_) AllReadyH.nil
          go_simp
          refine (beside_any p r oo _ (by omega) (by omega) (by omega) (by omega)).mono ?_
          rw [HPX.out.2.2.1, HPX.out.2.2.2]
          rintro e_ t41 ⟨rfl, hb⟩
          have D41 : Below wo.heap.size wo t41 := D40.trans (hb.mono D40.size)
          have A13_41 : t41.heap[b13]? = some (.cells #[.int .i64 0, .int .i64 0] 26 (0, 0)) := (hb.block _ (Array.getElem?_eq_some_iff.1 A13_40).1).trans A13_40
          have A14_41 : t41.heap[b14]? = some (.cells #[.int .i64 0, .int .i64 0] 26 (0, 0)) := (hb.block _ (Array.getElem?_eq_some_iff.1 A14_40).1).trans A14_40
          clear hb hHeld D40 A13_40 A14_40
          refine hK.out _ _ (G0.out _ D41) (fun hHeld => ?_)
          clear hK K
          try simp only [act_all]
          refine wpAnyH_ready (rs := [15]) (by kernel_rfl) (by simp) ?_
          refine AllReadyH.cons (o := _) rfl (fun K hK => ?_) AllReadyH.nil
          have v0 : t41.cell? ⟨b13, 0, none⟩ = some (.int .i64 0) := cell_of_blk A13_41 rfl
          have v1 : t41.cell? ⟨b13, 1, none⟩ = some (.int .i64 0) := cell_of_blk A13_41 rfl
          have vf : ∀ j, t41.frozen? ⟨b13, j, none⟩ = false := fun j => by simp [World.frozen?, A13_41]
          go_simp
          have A13_42 : ((t41.setCell ⟨b13, 0, none⟩ (.int .i64 px)).setCell ⟨b13, 1, none⟩ (.int .i64 py)).heap[b13]? = some (.cells #[.int .i64 px, .int .i64 py] 26 (0, 0)) := blk_set (blk_set A13_41 _) _
          have D42 : Below wo.heap.size wo ((t41.setCell ⟨b13, 0, none⟩ (.int .i64 px)).setCell ⟨b13, 1, none⟩ (.int .i64 py)) := (D41.setCell (p := ⟨b13, 0, none⟩) g13 _).setCell (p := ⟨b13, 1, none⟩) g13 _
          have A14_42 : ((t41.setCell ⟨b13, 0, none⟩ (.int .i64 px)).setCell ⟨b13, 1, none⟩ (.int .i64 py)).heap[b14]? = some (.cells #[.int .i64 0, .int .i64 0] 26 (0, 0)) := (Below.heap_setCell _ _ _ _ (show b14 ≠ b13 by omega)).trans ((Below.heap_setCell _ _ _ _ (show b14 ≠ b13 by omega)).trans A14_41)
          clear hHeld
          refine hK.out _ _ (G0.out _ D42) (fun hHeld => ?_)
          clear hK K
          try simp only [act_all]
          obtain ⟨t42, ht42⟩ : ∃ z, z = ((t41.setCell ⟨b13, 0, none⟩ (.int .i64 px)).setCell ⟨b13, 1, none⟩ (.int .i64 py)) := ⟨_, rfl⟩
          rw [← ht42] at A13_42 D42 A14_42 ⊢
          clear ht42 v0 v1 vf hHeld D41 A13_41 A14_41
          have hHeld := G0.out _ D42
          refine wpAnyH_ready (rs := [16]) (by kernel_rfl) (by simp) ?_
          refine AllReadyH.cons (o := _) rfl (fun K hK => ?_) AllReadyH.nil
          have v0 : t42.cell? ⟨b14, 0, none⟩ = some (.int .i64 0) := cell_of_blk A14_42 rfl
          have v1 : t42.cell? ⟨b14, 1, none⟩ = some (.int .i64 0) := cell_of_blk A14_42 rfl
          have vf : ∀ j, t42.frozen? ⟨b14, j, none⟩ = false := fun j => by simp [World.frozen?, A14_42]
          go_simp
          have A14_43 : ((t42.setCell ⟨b14, 0, none⟩ (.int .i64 qx)).setCell ⟨b14, 1, none⟩ (.int .i64 qy)).heap[b14]? = some (.cells #[.int .i64 qx, .int .i64 qy] 26 (0, 0)) := blk_set (blk_set A14_42 _) _
          have D43 : Below wo.heap.size wo ((t42.setCell ⟨b14, 0, none⟩ (.int .i64 qx)).setCell ⟨b14, 1, none⟩ (.int .i64 qy)) := (D42.setCell (p := ⟨b14, 0, none⟩) g14 _).setCell (p := ⟨b14, 1, none⟩) g14 _
          have A13_43 : ((t42.setCell ⟨b14, 0, none⟩ (.int .i64 qx)).setCell ⟨b14, 1, none⟩ (.int .i64 qy)).heap[b13]? = some (.cells #[.int .i64 px, .int .i64 py] 26 (0, 0)) := (Below.heap_setCell _ _ _ _ (show b13 ≠ b14 by omega)).trans ((Below.heap_setCell _ _ _ _ (show b13 ≠ b14 by omega)).trans A13_42)
          clear hHeld
          refine hK.out _ _ (G0.out _ D43) (fun hHeld => ?_)
          clear hK K
          try simp only [act_all]
          obtain ⟨t43, ht43⟩ : ∃ z, z = ((t42.setCell ⟨b14, 0, none⟩ (.int .i64 qx)).setCell ⟨b14, 1, none⟩ (.int .i64 qy)) := ⟨_, rfl⟩
          rw [← ht43] at A14_43 D43 A13_43 ⊢
          clear ht43 v0 v1 vf hHeld D42 A13_42 A14_42
          have hHeld := G0.out _ D43
          refine wpAnyH_done (by kernel_rfl) ?_ _
          clear hHeld
          go_wp2_with fail
          go_meet
          exact ⟨_, _, rfl, rfl, A13_43, A14_43, D43⟩
        refine AllReadyH.cons (o := _) rfl (fun K hK => ?_) AllReadyH.nil
        go_simp
        have D44 : Below wo.heap.size wo (t0.alloc (.cells #[.int .i64 0, .int .i64 0] 26)) := D0.alloc D0.size _
        have A14_44 : (t0.alloc (.cells #[.int .i64 0, .int .i64 0] 26)).heap[t0.heap.size]? = some (.cells #[.int .i64 0, .int .i64 0] 26 (0, 0)) := heap_alloc_new t0 _
        clear hHeld
        refine hK.out _ _ (G0.out _ D44) (fun hHeld => ?_)
        clear hK K
        try simp only [act_all]
        obtain ⟨b14, hb14⟩ : ∃ z, z = t0.heap.size := ⟨_, rfl⟩
        have g14 : wo.heap.size ≤ b14 := by rw [hb14]; exact D0.size
        rw [← hb14] at A14_44 ⊢
        obtain ⟨t44, ht44⟩ : ∃ z, z = (t0.alloc (.cells #[.int .i64 0, .int .i64 0] 26)) := ⟨_, rfl⟩
        rw [← ht44] at A14_44 D44 ⊢
        clear ht44 hb14 hHeld D0
        have hHeld := G0.out _ D44
        refine wpAnyH_ready (rs := [5, 13]) (by kernel_rfl) (by simp) ?_
        refine AllReadyH.cons (o := _) rfl (fun K hK => ?_) ?_
        ·
          go_simp
          refine (beside_any x y oo _ (by omega) (by omega) (by omega) (by omega)).mono ?_
          rw [HPX.out.1, HPX.out.2.1]
          rintro e_ t45 ⟨rfl, hb⟩
          have D45 : Below wo.heap.size wo t45 := D44.trans (hb.mono D44.size)
          have A14_45 : t45.heap[b14]? = some (.cells #[.int .i64 0, .int .i64 0] 26 (0, 0)) := (hb.block _ (Array.getElem?_eq_some_iff.1 A14_44).1).trans A14_44
          clear hb hHeld D44 A14_44
          refine hK.out _ _ (G0.out _ D45) (fun hHeld => ?_)
          clear hK K
          try simp only [act_all]
          refine wpAnyH_ready (rs := [12, 13]) (by kernel_rfl) (by simp) ?_
          refine AllReadyH.cons (o := _) rfl (fun K hK => ?_) ?_
          ·
            go_simp
            refine (beside_any p r oo _ (by omega) (by omega) (by omega) (by omega)).mono ?_
            rw [HPX.out.2.2.1, HPX.out.2.2.2]
            rintro e_ t46 ⟨rfl, hb⟩
            have D46 : Below wo.heap.size wo t46 := D45.trans (hb.mono D45.size)
            have A14_46 : t46.heap[b14]? = some (.cells #[.int .i64 0, .int .i64 0] 26 (0, 0)) := (hb.block _ (Array.getElem?_eq_some_iff.1 A14_45).1).trans A14_45
            clear hb hHeld D45 A14_45
            refine hK.out _ _ (G0.out _ D46) (fun hHeld => ?_)
            clear hK K
            try simp only [act_all]
            refine wpAnyH_ready (rs := [13]) (by kernel_rfl) (by simp) ?_
            refine AllReadyH.cons (o := _) rfl (fun K hK => ?_) AllReadyH.nil
            go_simp
            have D47 : Below wo.heap.size wo (t46.alloc (.cells #[.int .i64 0, .int .i64 0] 26)) := D46.alloc D46.size _
            have A13_47 : (t46.alloc (.cells #[.int .i64 0, .int .i64 0] 26)).heap[t46.heap.size]? = some (.cells #[.int .i64 0, .int .i64 0] 26 (0, 0)) := heap_alloc_new t46 _
            have A14_47 : (t46.alloc (.cells #[.int .i64 0, .int .i64 0] 26)).heap[b14]? = some (.cells #[.int .i64 0, .int .i64 0] 26 (0, 0)) := (Below.heap_alloc _ _ _ (Array.getElem?_eq_some_iff.1 A14_46).1).trans A14_46
            clear hHeld
            refine hK.out _ _ (G0.out _ D47) (fun hHeld => ?_)
            clear hK K
            try simp only [act_all]
            obtain ⟨b13, hb13⟩ : ∃ z, z = t46.heap.size := ⟨_, rfl⟩
            have g13 : wo.heap.size ≤ b13 := by rw [hb13]; exact D46.size
            have hne : b14 ≠ b13 := by have := (Array.getElem?_eq_some_iff.1 A14_46).1; omega
            rw [← hb13] at A13_47 ⊢
            obtain ⟨t47, ht47⟩ : ∃ z, z = (t46.alloc (.cells #[.int .i64 0, .int .i64 0] 26)) := ⟨_, rfl⟩
            rw [← ht47] at A13_47 D47 A14_47 ⊢
            clear ht47 hb13 hHeld D46 A14_46
            have hHeld := G0.out _ D47
            refine wpAnyH_ready (rs := [15]) (by kernel_rfl) (by simp) ?_
            refine AllReadyH.cons (o := _) rfl (fun K hK => ?_) AllReadyH.nil
            have v0 : t47.cell? ⟨b13, 0, none⟩ = some (.int .i64 0) := cell_of_blk A13_47 rfl
            have v1 : t47.cell? ⟨b13, 1, none⟩ = some (.int .i64 0) := cell_of_blk A13_47 rfl
            have vf : ∀ j, t47.frozen? ⟨b13, j, none⟩ = false := fun j => by simp [World.frozen?, A13_47]
            go_simp
            have A13_48 : ((t47.setCell ⟨b13, 0, none⟩ (.int .i64 px)).setCell ⟨b13, 1, none⟩ (.int .i64 py)).heap[b13]? = some (.cells #[.int .i64 px, .int .i64 py] 26 (0, 0)) := blk_set (blk_set A13_47 _) _
            have D48 : Below wo.heap.size wo ((t47.setCell ⟨b13, 0, none⟩ (.int .i64 px)).setCell ⟨b13, 1, none⟩ (.int .i64 py)) := (D47.setCell (p := ⟨b13, 0, none⟩) g13 _).setCell (p := ⟨b13, 1, none⟩) g13 _
            have A14_48 : ((t47.setCell ⟨b13, 0, none⟩ (.int .i64 px)).setCell ⟨b13, 1, none⟩ (.int .i64 py)).heap[b14]? = some (.cells #[.int .i64 0, .int .i64 0] 26 (0, 0)) := (Below.heap_setCell _ _ _ _ (show b14 ≠ b13 by omega)).trans ((Below.heap_setCell _ _ _ _ (show b14 ≠ b13 by omega)).trans A14_47)
            clear hHeld
            refine hK.out _ _ (G0.out _ D48) (fun hHeld => ?_)
            clear hK K
            try simp only [act_all]
            obtain ⟨t48, ht48⟩ : ∃ z, z = ((t47.setCell ⟨b13, 0, none⟩ (.int .i64 px)).setCell ⟨b13, 1, none⟩ (.int .i64 py)) := ⟨_, rfl⟩
            rw [← ht48] at A13_48 D48 A14_48 ⊢
            clear ht48 v0 v1 vf hHeld D47 A14_47 A13_47
            have hHeld := G0.out _ D48
            refine wpAnyH_ready (rs := [16]) (by kernel_rfl) (by simp) ?_
            refine AllReadyH.cons (o := _) rfl (fun K hK => ?_) AllReadyH.nil
            have v0 : t48.cell? ⟨b14, 0, none⟩ = some (.int .i64 0) := cell_of_blk A14_48 rfl
            have v1 : t48.cell? ⟨b14, 1, none⟩ = some (.int .i64 0) := cell_of_blk A14_48 rfl
            have vf : ∀ j, t48.frozen? ⟨b14, j, none⟩ = false := fun j => by simp [World.frozen?, A14_48]
            go_simp
            have A14_49 : ((t48.setCell ⟨b14, 0, none⟩ (.int .i64 qx)).setCell ⟨b14, 1, none⟩ (.int .i64 qy)).heap[b14]? = some (.cells #[.int .i64 qx, .int .i64 qy] 26 (0, 0)) := blk_set (blk_set A14_48 _) _
            have D49 : Below wo.heap.size wo ((t48.setCell ⟨b14, 0, none⟩ (.int .i64 qx)).setCell ⟨b14, 1, none⟩ (.int .i64 qy)) := (D48.setCell (p := ⟨b14, 0, none⟩) g14 _).setCell (p := ⟨b14, 1, none⟩) g14 _
            have A13_49 : ((t48.setCell ⟨b14, 0, none⟩ (.int .i64 qx)).setCell ⟨b14, 1, none⟩ (.int .i64 qy)).heap[b13]? = some (.cells #[.int .i64 px, .int .i64 py] 26 (0, 0)) := (Below.heap_setCell _ _ _ _ (show b13 ≠ b14 by omega)).trans ((Below.heap_setCell _ _ _ _ (show b13 ≠ b14 by omega)).trans A13_48)
            clear hHeld
            refine hK.out _ _ (G0.out _ D49) (fun hHeld => ?_)
            clear hK K
            try simp only [act_all]
            obtain ⟨t49, ht49⟩ : ∃ z, z = ((t48.setCell ⟨b14, 0, none⟩ (.int .i64 qx)).setCell ⟨b14, 1, none⟩ (.int .i64 qy)) := ⟨_, rfl⟩
            rw [← ht49] at A14_49 D49 A13_49 ⊢
            clear ht49 v0 v1 vf hHeld D48 A14_48 A13_48
            have hHeld := G0.out _ D49
            refine wpAnyH_done (by kernel_rfl) ?_ _
            clear hHeld
            go_wp2_with fail
            go_meet
            exact ⟨_, _, rfl, rfl, A13_49, A14_49, D49⟩
          refine AllReadyH.cons (o := _) rfl (fun K hK => ?_) AllReadyH.nil
          go_simp
          have D50 : Below wo.heap.size wo (t45.alloc (.cells #[.int .i64 0, .int .i64 0] 26)) := D45.alloc D45.size _
          have A13_50 : (t45.alloc (.cells #[.int .i64 0, .int .i64 0] 26)).heap[t45.heap.size]? = some (.cells #[.int .i64 0, .int .i64 0] 26 (0, 0)) := heap_alloc_new t45 _
          have A14_50 : (t45.alloc (.cells #[.int .i64 0, .int .i64 0] 26)).heap[b14]? = some (.cells #[.int .i64 0, .int .i64 0] 26 (0, 0)) := (Below.heap_alloc _ _ _ (Array.getElem?_eq_some_iff.1 A14_45).1).trans A14_45
          clear hHeld
          refine hK.out _ _ (G0.out _ D50) (fun hHeld => ?_)
          clear hK K
          try simp only [act_all]
          obtain ⟨b13, hb13⟩ : ∃ z, z = t45.heap.size := ⟨_, rfl⟩
          have g13 : wo.heap.size ≤ b13 := by rw [hb13]; exact D45.size
          have hne : b14 ≠ b13 := by have := (Array.getElem?_eq_some_iff.1 A14_45).1; omega
          rw [← hb13] at A13_50 ⊢
          obtain ⟨t50, ht50⟩ : ∃ z, z = (t45.alloc (.cells #[.int .i64 0, .int .i64 0] 26)) := ⟨_, rfl⟩
          rw [← ht50] at A13_50 D50 A14_50 ⊢
          clear ht50 hb13 hHeld D45 A14_45
          have hHeld := G0.out _ D50
          refine wpAnyH_ready (rs := [12]) (by kernel_rfl) (by simp) ?_
          refine AllReadyH.cons (o := _) rfl (fun K hK => ?_) AllReadyH.nil
          go_simp
          refine (beside_any p r oo _ (by omega) (by omega) (by omega) (by omega)).mono ?_
          rw [HPX.out.2.2.1, HPX.out.2.2.2]
          rintro e_ t51 ⟨rfl, hb⟩
          have D51 : Below wo.heap.size wo t51 := D50.trans (hb.mono D50.size)
          have A14_51 : t51.heap[b14]? = some (.cells #[.int .i64 0, .int .i64 0] 26 (0, 0)) := (hb.block _ (Array.getElem?_eq_some_iff.1 A14_50).1).trans A14_50
          have A13_51 : t51.heap[b13]? = some (.cells #[.int .i64 0, .int .i64 0] 26 (0, 0)) := (hb.block _ (Array.getElem?_eq_some_iff.1 A13_50).1).trans A13_50
          clear hb hHeld D50 A14_50 A13_50
          refine hK.out _ _ (G0.out _ D51) (fun hHeld => ?_)
          clear hK K
          try simp only [act_all]
          refine wpAnyH_ready (rs := [15]) (by kernel_rfl) (by simp) ?_
          refine AllReadyH.cons (o := _) rfl (fun K hK => ?_) AllReadyH.nil
          have v0 : t51.cell? ⟨b13, 0, none⟩ = some (.int .i64 0) := cell_of_blk A13_51 rfl
          have v1 : t51.cell? ⟨b13, 1, none⟩ = some (.int .i64 0) := cell_of_blk A13_51 rfl
          have vf : ∀ j, t51.frozen? ⟨b13, j, none⟩ = false := fun j => by simp [World.frozen?, A13_51]
          go_simp
          have A13_52 : ((t51.setCell ⟨b13, 0, none⟩ (.int .i64 px)).setCell ⟨b13, 1, none⟩ (.int .i64 py)).heap[b13]? = some (.cells #[.int .i64 px, .int .i64 py] 26 (0, 0)) := blk_set (blk_set A13_51 _) _
          have D52 : Below wo.heap.size wo ((t51.setCell ⟨b13, 0, none⟩ (.int .i64 px)).setCell ⟨b13, 1, none⟩ (.int .i64 py)) := (D51.setCell (p := ⟨b13, 0, none⟩) g13 _).setCell (p := ⟨b13, 1, none⟩) g13 _
          have A14_52 : ((t51.setCell ⟨b13, 0, none⟩ (.int .i64 px)).setCell ⟨b13, 1, none⟩ (.int .i64 py)).heap[b14]? = some (.cells #[.int .i64 0, .int .i64 0] 26 (0, 0)) := (Below.heap_setCell _ _ _ _ (show b14 ≠ b13 by omega)).trans ((Below.heap_setCell _ _ _ _ (show b14 ≠ b13 by omega)).trans A14_51)
          clear hHeld
          refine hK.out _ _ (G0.out _ D52) (fun hHeld => ?_)
          clear hK K
          try simp only [act_all]
          obtain ⟨t52, ht52⟩ : ∃ z, z = ((t51.setCell ⟨b13, 0, none⟩ (.int .i64 px)).setCell ⟨b13, 1, none⟩ (.int .i64 py)) := ⟨_, rfl⟩
          rw [← ht52] at A13_52 D52 A14_52 ⊢
          clear ht52 v0 v1 vf hHeld D51 A14_51 A13_51
          have hHeld := G0.out _ D52
          refine wpAnyH_ready (rs := [16]) (by kernel_rfl) (by simp) ?_
          refine AllReadyH.cons (o := _) rfl (fun K hK => ?_) AllReadyH.nil
          have v0 : t52.cell? ⟨b14, 0, none⟩ = some (.int .i64 0) := cell_of_blk A14_52 rfl
          have v1 : t52.cell? ⟨b14, 1, none⟩ = some (.int .i64 0) := cell_of_blk A14_52 rfl
          have vf : ∀ j, t52.frozen? ⟨b14, j, none⟩ = false := fun j => by simp [World.frozen?, A14_52]
          go_simp
          have A14_53 : ((t52.setCell ⟨b14, 0, none⟩ (.int .i64 qx)).setCell ⟨b14, 1, none⟩ (.int .i64 qy)).heap[b14]? = some (.cells #[.int .i64 qx, .int .i64 qy] 26 (0, 0)) := blk_set (blk_set A14_52 _) _
          have D53 : Below wo.heap.size wo ((t52.setCell ⟨b14, 0, none⟩ (.int .i64 qx)).setCell ⟨b14, 1, none⟩ (.int .i64 qy)) := (D52.setCell (p := ⟨b14, 0, none⟩) g14 _).setCell (p := ⟨b14, 1, none⟩) g14 _
          have A13_53 : ((t52.setCell ⟨b14, 0, none⟩ (.int .i64 qx)).setCell ⟨b14, 1, none⟩ (.int .i64 qy)).heap[b13]? = some (.cells #[.int .i64 px, .int .i64 py] 26 (0, 0)) := (Below.heap_setCell _ _ _ _ (show b13 ≠ b14 by omega)).trans ((Below.heap_setCell _ _ _ _ (show b13 ≠ b14 by omega)).trans A13_52)
          clear hHeld
          refine hK.out _ _ (G0.out _ D53) (fun hHeld => ?_)
          clear hK K
          try simp only [act_all]
          obtain ⟨t53, ht53⟩ : ∃ z, z = ((t52.setCell ⟨b14, 0, none⟩ (.int .i64 qx)).setCell ⟨b14, 1, none⟩ (.int .i64 qy)) := ⟨_, rfl⟩
          rw [← ht53] at A14_53 D53 A13_53 ⊢
          clear ht53 v0 v1 vf hHeld D52 A14_52 A13_52
          have hHeld := G0.out _ D53
          refine wpAnyH_done (by kernel_rfl) ?_ _
          clear hHeld
          go_wp2_with fail
          go_meet
          exact ⟨_, _, rfl, rfl, A13_53, A14_53, D53⟩
        refine AllReadyH.cons (o := _) rfl (fun K hK => ?_) AllReadyH.nil
        go_simp
        have D54 : Below wo.heap.size wo (t44.alloc (.cells #[.int .i64 0, .int .i64 0] 26)) := D44.alloc D44.size _
        have A13_54 : (t44.alloc (.cells #[.int .i64 0, .int .i64 0] 26)).heap[t44.heap.size]? = some (.cells #[.int .i64 0, .int .i64 0] 26 (0, 0)) := heap_alloc_new t44 _
        have A14_54 : (t44.alloc (.cells #[.int .i64 0, .int .i64 0] 26)).heap[b14]? = some (.cells #[.int .i64 0, .int .i64 0] 26 (0, 0)) := (Below.heap_alloc _ _ _ (Array.getElem?_eq_some_iff.1 A14_44).1).trans A14_44
        clear hHeld
        refine hK.out _ _ (G0.out _ D54) (fun hHeld => ?_)
        clear hK K
        try simp only [act_all]
        obtain ⟨b13, hb13⟩ : ∃ z, z = t44.heap.size := ⟨_, rfl⟩
        have g13 : wo.heap.size ≤ b13 := by rw [hb13]; exact D44.size
        have hne : b14 ≠ b13 := by have := (Array.getElem?_eq_some_iff.1 A14_44).1; omega
        rw [← hb13] at A13_54 ⊢
        obtain ⟨t54, ht54⟩ : ∃ z, z = (t44.alloc (.cells #[.int .i64 0, .int .i64 0] 26)) := ⟨_, rfl⟩
        rw [← ht54] at A13_54 D54 A14_54 ⊢
        clear ht54 hb13 hHeld D44 A14_44
        have hHeld := G0.out _ D54
        refine wpAnyH_ready (rs := [5]) (by kernel_rfl) (by simp) ?_
        refine AllReadyH.cons (o := _) rfl (fun K hK => ?_) AllReadyH.nil
        go_simp
        refine (beside_any x y oo _ (by omega) (by omega) (by omega) (by omega)).mono ?_
        rw [HPX.out.1, HPX.out.2.1]
        rintro e_ t55 ⟨rfl, hb⟩
        have D55 : Below wo.heap.size wo t55 := D54.trans (hb.mono D54.size)
        have A14_55 : t55.heap[b14]? = some (.cells #[.int .i64 0, .int .i64 0] 26 (0, 0)) := (hb.block _ (Array.getElem?_eq_some_iff.1 A14_54).1).trans A14_54
        have A13_55 : t55.heap[b13]? = some (.cells #[.int .i64 0, .int .i64 0] 26 (0, 0)) := (hb.block _ (Array.getElem?_eq_some_iff.1 A13_54).1).trans A13_54
        clear hb hHeld D54 A14_54 A13_54
        refine hK.out _ _ (G0.out _ D55) (fun hHeld => ?_)
        clear hK K
        try simp only [act_all]
        refine wpAnyH_ready (rs := [12]) (by kernel_rfl) (by simp) ?_
        refine AllReadyH.cons (o := _) rfl (fun K hK => ?_) AllReadyH.nil
        go_simp
        refine (beside_any p r oo _ (by omega) (by omega) (by omega) (by omega)).mono ?_
        rw [HPX.out.2.2.1, HPX.out.2.2.2]
        rintro e_ t56 ⟨rfl, hb⟩
        have D56 : Below wo.heap.size wo t56 := D55.trans (hb.mono D55.size)
        have A14_56 : t56.heap[b14]? = some (.cells #[.int .i64 0, .int .i64 0] 26 (0, 0)) := (hb.block _ (Array.getElem?_eq_some_iff.1 A14_55).1).trans A14_55
        have A13_56 : t56.heap[b13]? = some (.cells #[.int .i64 0, .int .i64 0] 26 (0, 0)) := (hb.block _ (Array.getElem?_eq_some_iff.1 A13_55).1).trans A13_55
        clear hb hHeld D55 A14_55 A13_55
        refine hK.out _ _ (G0.out _ D56) (fun hHeld => ?_)
        clear hK K
        try simp only [act_all]
        refine wpAnyH_ready (rs := [15]) (by kernel_rfl) (by simp) ?_
        refine AllReadyH.cons (o := _) rfl (fun K hK => ?_) AllReadyH.nil
        have v0 : t56.cell? ⟨b13, 0, none⟩ = some (.int .i64 0) := cell_of_blk A13_56 rfl
        have v1 : t56.cell? ⟨b13, 1, none⟩ = some (.int .i64 0) := cell_of_blk A13_56 rfl
        have vf : ∀ j, t56.frozen? ⟨b13, j, none⟩ = false := fun j => by simp [World.frozen?, A13_56]
        go_simp
        have A13_57 : ((t56.setCell ⟨b13, 0, none⟩ (.int .i64 px)).setCell ⟨b13, 1, none⟩ (.int .i64 py)).heap[b13]? = some (.cells #[.int .i64 px, .int .i64 py] 26 (0, 0)) := blk_set (blk_set A13_56 _) _
        have D57 : Below wo.heap.size wo ((t56.setCell ⟨b13, 0, none⟩ (.int .i64 px)).setCell ⟨b13, 1, none⟩ (.int .i64 py)) := (D56.setCell (p := ⟨b13, 0, none⟩) g13 _).setCell (p := ⟨b13, 1, none⟩) g13 _
        have A14_57 : ((t56.setCell ⟨b13, 0, none⟩ (.int .i64 px)).setCell ⟨b13, 1, none⟩ (.int .i64 py)).heap[b14]? = some (.cells #[.int .i64 0, .int .i64 0] 26 (0, 0)) := (Below.heap_setCell _ _ _ _ (show b14 ≠ b13 by omega)).trans ((Below.heap_setCell _ _ _ _ (show b14 ≠ b13 by omega)).trans A14_56)
        clear hHeld
        refine hK.out _ _ (G0.out _ D57) (fun hHeld => ?_)
        clear hK K
        try simp only [act_all]
        obtain ⟨t57, ht57⟩ : ∃ z, z = ((t56.setCell ⟨b13, 0, none⟩ (.int .i64 px)).setCell ⟨b13, 1, none⟩ (.int .i64 py)) := ⟨_, rfl⟩
        rw [← ht57] at A13_57 D57 A14_57 ⊢
        clear ht57 v0 v1 vf hHeld D56 A14_56 A13_56
        have hHeld := G0.out _ D57
        refine wpAnyH_ready (rs := [16]) (by kernel_rfl) (by simp) ?_
        refine AllReadyH.cons (o := _) rfl (fun K hK => ?_) AllReadyH.nil
        have v0 : t57.cell? ⟨b14, 0, none⟩ = some (.int .i64 0) := cell_of_blk A14_57 rfl
        have v1 : t57.cell? ⟨b14, 1, none⟩ = some (.int .i64 0) := cell_of_blk A14_57 rfl
        have vf : ∀ j, t57.frozen? ⟨b14, j, none⟩ = false := fun j => by simp [World.frozen?, A14_57]
        go_simp
        have A14_58 : ((t57.setCell ⟨b14, 0, none⟩ (.int .i64 qx)).setCell ⟨b14, 1, none⟩ (.int .i64 qy)).heap[b14]? = some (.cells #[.int .i64 qx, .int .i64 qy] 26 (0, 0)) := blk_set (blk_set A14_57 _) _
        have D58 : Below wo.heap.size wo ((t57.setCell ⟨b14, 0, none⟩ (.int .i64 qx)).setCell ⟨b14, 1, none⟩ (.int .i64 qy)) := (D57.setCell (p := ⟨b14, 0, none⟩) g14 _).setCell (p := ⟨b14, 1, none⟩) g14 _
        have A13_58 : ((t57.setCell ⟨b14, 0, none⟩ (.int .i64 qx)).setCell ⟨b14, 1, none⟩ (.int .i64 qy)).heap[b13]? = some (.cells #[.int .i64 px, .int .i64 py] 26 (0, 0)) := (Below.heap_setCell _ _ _ _ (show b13 ≠ b14 by omega)).trans ((Below.heap_setCell _ _ _ _ (show b13 ≠ b14 by omega)).trans A13_57)
        clear hHeld
        refine hK.out _ _ (G0.out _ D58) (fun hHeld => ?_)
        clear hK K
        try simp only [act_all]
        obtain ⟨t58, ht58⟩ : ∃ z, z = ((t57.setCell ⟨b14, 0, none⟩ (.int .i64 qx)).setCell ⟨b14, 1, none⟩ (.int .i64 qy)) := ⟨_, rfl⟩
        rw [← ht58] at A14_58 D58 A13_58 ⊢
        clear ht58 v0 v1 vf hHeld D57 A14_57 A13_57
        have hHeld := G0.out _ D58
        refine wpAnyH_done (by kernel_rfl) ?_ _
        clear hHeld
        go_wp2_with fail
        go_meet
        exact ⟨_, _, rfl, rfl, A13_58, A14_58, D58⟩
      case rest =>
        obtain ⟨b13, b14, rfl, rfl, k13, k14, hbx⟩ := hcut
        obtain ⟨C, hC⟩ : ∃ z, z = wc := ⟨wc, rfl⟩
        subst hC
        have K13 := Lib.hid k13
        have K14 := Lib.hid k14
        have K23C : Hid (C.heap[b23]? = some (.cells #[.int .i64 1, .int .i64 3] 3 (0, 0))) := Lib.hid ((hbx.block _ hzo).trans K23o.out)
        have HIC : Hid (Ints C (some ⟨bi, oi, none⟩) l (wyN X Y)) := Lib.hid (HIo.out.keep hbx)
        have KBC : Hid (C.heap[w.heap.size]? = some (.cells #[.int .i64 W, .int .i64 H, .int .i64 M, .int .i64 B, .slice ao nb cb, .map (some m)] 68 (0, 0))) := Lib.hid ((hbx.block _ (by omega)).trans KBo.out)
        have HBC : Hid (Below w.heap.size w C) := Lib.hid (HBo.out.trans (hbx.mono HBo.out.size))
        have hzC : b23 < C.heap.size := by have := hbx.size; omega
        have h13 : b13 < C.heap.size := (Array.getElem?_eq_some_iff.1 k13).1
        have h14 : b14 < C.heap.size := (Array.getElem?_eq_some_iff.1 k14).1
        clear hbx k13 k14 K23o HIo KBo HBo hzo G0 hwr hlt0 hlt1 hlt2
        obtain ⟨op1, hop1⟩ : ∃ z, opB W H K px py = z := ⟨_, rfl⟩
        obtain ⟨op2, hop2⟩ : ∃ z, opB W H K qx qy = z := ⟨_, rfl⟩
        have HO1 := Lib.hid hop1
        have HO2 := Lib.hid hop2
        clear hop1 hop2
        obtain ⟨r0, r1, r2, r3, r4, r5⟩ : C.cell? ⟨w.heap.size, 0, none⟩ = some (.int .i64 W) ∧ C.cell? ⟨w.heap.size, 1, none⟩ = some (.int .i64 H) ∧ C.cell? ⟨w.heap.size, 2, none⟩ = some (.int .i64 M) ∧ C.cell? ⟨w.heap.size, 3, none⟩ = some (.int .i64 B) ∧ C.cell? ⟨w.heap.size, 4, none⟩ = some (.slice ao nb cb) ∧ C.cell? ⟨w.heap.size, 5, none⟩ = some (.map (some m)) := ⟨cell_of_blk KBC.out rfl, cell_of_blk KBC.out rfl, cell_of_blk KBC.out rfl, cell_of_blk KBC.out rfl, cell_of_blk KBC.out rfl, cell_of_blk KBC.out rfl⟩
        obtain ⟨x0, x1⟩ : C.cell? ⟨b13, 0, none⟩ = some (.int .i64 px) ∧ C.cell? ⟨b13, 1, none⟩ = some (.int .i64 py) := ⟨cell_of_blk K13.out rfl, cell_of_blk K13.out rfl⟩
        obtain ⟨y0, y1⟩ : C.cell? ⟨b14, 0, none⟩ = some (.int .i64 qx) ∧ C.cell? ⟨b14, 1, none⟩ = some (.int .i64 qy) := ⟨cell_of_blk K14.out rfl, cell_of_blk K14.out rfl⟩
        go_wp2_with fail
        refine (has_any W H M B px py nb cb m N9 ao K _ hW hH (HM.out.keep (HBC.out.block _ hml))).mono ?_
        rw [HO1.out]
        rintro e E1 ⟨rfl, hb⟩
        have K13_E1 : Hid (E1.heap[b13]? = some (.cells #[.int .i64 px, .int .i64 py] 26 (0, 0))) := Lib.hid ((hb.block _ (by omega)).trans K13.out)
        have K14_E1 : Hid (E1.heap[b14]? = some (.cells #[.int .i64 qx, .int .i64 qy] 26 (0, 0))) := Lib.hid ((hb.block _ (by omega)).trans K14.out)
        have K23_E1 : Hid (E1.heap[b23]? = some (.cells #[.int .i64 1, .int .i64 3] 3 (0, 0))) := Lib.hid ((hb.block _ (by omega)).trans K23C.out)
        have HI_E1 : Hid (Ints E1 (some ⟨bi, oi, none⟩) l (wyN X Y)) := Lib.hid (HIC.out.keep hb)
        have KB_E1 : Hid (E1.heap[w.heap.size]? = some (.cells #[.int .i64 W, .int .i64 H, .int .i64 M, .int .i64 B, .slice ao nb cb, .map (some m)] 68 (0, 0))) := Lib.hid ((hb.block _ (by omega)).trans KBC.out)
        have HB_E1 : Hid (Below w.heap.size w E1) := Lib.hid (HBC.out.trans (hb.mono HBC.out.size))
        have hz_E1 : b23 < E1.heap.size ∧ b13 < E1.heap.size ∧ b14 < E1.heap.size := by have := hb.size; omega
        clear hb r0 r1 r2 r3 r4 r5 x0 x1 y0 y1 K13 K14 K23C HIC KBC HBC hzC h13 h14
        cases op1 with
        | false =>
          have hzz : b23 < _ := hz_E1.1
          go_wp2_with fail
          go_roundg (2 - (q + 1))
          case measure => have := HGD.out; omega
          case rel => exact ⟨q + 1, by go_num, by omega, Lib.hid (Nat.le_refl _), K23_E1, HI_E1, KB_E1, HB_E1, hzz⟩
        | true =>
          obtain ⟨r0, r1, r2, r3, r4, r5⟩ : E1.cell? ⟨w.heap.size, 0, none⟩ = some (.int .i64 W) ∧ E1.cell? ⟨w.heap.size, 1, none⟩ = some (.int .i64 H) ∧ E1.cell? ⟨w.heap.size, 2, none⟩ = some (.int .i64 M) ∧ E1.cell? ⟨w.heap.size, 3, none⟩ = some (.int .i64 B) ∧ E1.cell? ⟨w.heap.size, 4, none⟩ = some (.slice ao nb cb) ∧ E1.cell? ⟨w.heap.size, 5, none⟩ = some (.map (some m)) := ⟨cell_of_blk KB_E1.out rfl, cell_of_blk KB_E1.out rfl, cell_of_blk KB_E1.out rfl, cell_of_blk KB_E1.out rfl, cell_of_blk KB_E1.out rfl, cell_of_blk KB_E1.out rfl⟩
          obtain ⟨x0, x1⟩ : E1.cell? ⟨b13, 0, none⟩ = some (.int .i64 px) ∧ E1.cell? ⟨b13, 1, none⟩ = some (.int .i64 py) := ⟨cell_of_blk K13_E1.out rfl, cell_of_blk K13_E1.out rfl⟩
          obtain ⟨y0, y1⟩ : E1.cell? ⟨b14, 0, none⟩ = some (.int .i64 qx) ∧ E1.cell? ⟨b14, 1, none⟩ = some (.int .i64 qy) := ⟨cell_of_blk K14_E1.out rfl, cell_of_blk K14_E1.out rfl⟩
          go_wp2_with fail
          refine (has_any W H M B qx qy nb cb m N9 ao K _ hW hH (HM.out.keep (HB_E1.out.block _ hml))).mono ?_
          rw [HO2.out]
          rintro e E2 ⟨rfl, hb⟩
          have K13_E2 : Hid (E2.heap[b13]? = some (.cells #[.int .i64 px, .int .i64 py] 26 (0, 0))) := Lib.hid ((hb.block _ (by omega)).trans K13_E1.out)
          have K14_E2 : Hid (E2.heap[b14]? = some (.cells #[.int .i64 qx, .int .i64 qy] 26 (0, 0))) := Lib.hid ((hb.block _ (by omega)).trans K14_E1.out)
          have K23_E2 : Hid (E2.heap[b23]? = some (.cells #[.int .i64 1, .int .i64 3] 3 (0, 0))) := Lib.hid ((hb.block _ (by omega)).trans K23_E1.out)
          have HI_E2 : Hid (Ints E2 (some ⟨bi, oi, none⟩) l (wyN X Y)) := Lib.hid (HI_E1.out.keep hb)
          have KB_E2 : Hid (E2.heap[w.heap.size]? = some (.cells #[.int .i64 W, .int .i64 H, .int .i64 M, .int .i64 B, .slice ao nb cb, .map (some m)] 68 (0, 0))) := Lib.hid ((hb.block _ (by omega)).trans KB_E1.out)
          have HB_E2 : Hid (Below w.heap.size w E2) := Lib.hid (HB_E1.out.trans (hb.mono HB_E1.out.size))
          have hz_E2 : b23 < E2.heap.size ∧ b13 < E2.heap.size ∧ b14 < E2.heap.size := by have := hb.size; omega
          clear hb r0 r1 r2 r3 r4 r5 x0 x1 y0 y1 K13_E1 K14_E1 K23_E1 HI_E1 KB_E1 HB_E1 hz_E1
          cases op2 with
          | false =>
            have hzz : b23 < _ := hz_E2.1
            go_wp2_with fail
            go_roundg (2 - (q + 1))
            case measure => have := HGD.out; omega
            case rel => exact ⟨q + 1, by go_num, by omega, Lib.hid (Nat.le_refl _), K23_E2, HI_E2, KB_E2, HB_E2, hzz⟩
          | true =>
            obtain ⟨r0, r1, r2, r3, r4, r5⟩ : E2.cell? ⟨w.heap.size, 0, none⟩ = some (.int .i64 W) ∧ E2.cell? ⟨w.heap.size, 1, none⟩ = some (.int .i64 H) ∧ E2.cell? ⟨w.heap.size, 2, none⟩ = some (.int .i64 M) ∧ E2.cell? ⟨w.heap.size, 3, none⟩ = some (.int .i64 B) ∧ E2.cell? ⟨w.heap.size, 4, none⟩ = some (.slice ao nb cb) ∧ E2.cell? ⟨w.heap.size, 5, none⟩ = some (.map (some m)) := ⟨cell_of_blk KB_E2.out rfl, cell_of_blk KB_E2.out rfl, cell_of_blk KB_E2.out rfl, cell_of_blk KB_E2.out rfl, cell_of_blk KB_E2.out rfl, cell_of_blk KB_E2.out rfl⟩
            obtain ⟨x0, x1⟩ : E2.cell? ⟨b13, 0, none⟩ = some (.int .i64 px) ∧ E2.cell? ⟨b13, 1, none⟩ = some (.int .i64 py) := ⟨cell_of_blk K13_E2.out rfl, cell_of_blk K13_E2.out rfl⟩
            obtain ⟨y0, y1⟩ : E2.cell? ⟨b14, 0, none⟩ = some (.int .i64 qx) ∧ E2.cell? ⟨b14, 1, none⟩ = some (.int .i64 qy) := ⟨cell_of_blk K14_E2.out rfl, cell_of_blk K14_E2.out rfl⟩
            have on1 := (opB_iff.1 HO1.out).1
            have on2 := (opB_iff.1 HO2.out).1
            have hun := (HU.out.keep (HB_E2.out.block _ hul)).look (x := px) (y := py) (wf7 (by omega) (by omega)) (wf7 (by omega) (by omega))
            have huf := (HU.out.keep (HB_E2.out.block _ hul)).look (x := qx) (y := qy) (wf7 (by omega) (by omega)) (wf7 (by omega) (by omega))
            obtain ⟨u1, hu1⟩ : ∃ z, U px py = z := ⟨_, rfl⟩
            obtain ⟨u2, hu2⟩ : ∃ z, U qx qy = z := ⟨_, rfl⟩
            rw [hu1] at hun
            rw [hu2] at huf
            have HU12 := Lib.hid (And.intro hu1 hu2)
            clear hu1 hu2 on1 on2
            cases u1 with
            | true =>
              have hzz : b23 < _ := hz_E2.1
              go_wp2_with fail
              go_roundg (2 - (q + 1))
              case measure => have := HGD.out; omega
              case rel => exact ⟨q + 1, by go_num, by omega, Lib.hid (Nat.le_refl _), K23_E2, HI_E2, KB_E2, HB_E2, hzz⟩
            | false =>
              cases u2 with
              | true =>
                have hzz : b23 < _ := hz_E2.1
                go_wp2_with fail
                go_roundg (2 - (q + 1))
                case measure => have := HGD.out; omega
                case rel => exact ⟨q + 1, by go_num, by omega, Lib.hid (Nat.le_refl _), K23_E2, HI_E2, KB_E2, HB_E2, hzz⟩
              | false =>
                have HRM : Hid (Room W H K U X Y l k s oo) := Lib.hid (by
                  obtain ⟨a1, a2, a3, a4⟩ := HXY.out
                  obtain ⟨c1, c2, c3, c4⟩ := HPX.out
                  refine ⟨hlt, hs, by rw [HD.out, HOO.out], ?_, ?_, ?_, ?_⟩
                  · rw [a1, a2, c1, c2]; exact HO1.out
                  · rw [a3, a4, c3, c4]; exact HO2.out
                  · rw [a1, a2, c1, c2]; exact HU12.out.1
                  · rw [a3, a4, c3, c4]; exact HU12.out.2)
                have hwr : IntKind.i64.wrap ((k : Int) + 1) = (k : Int) + 1 := by rw [IntKind.wrap_i64]; omega
                go_upto_region 10 with fail
                clear hun huf r0 r1 r2 r3 r4 r5 x0 x1 y0 y1
                have D0 : Below E2.heap.size E2 E2.drew := (Below.refl _ _).drew
                have G0 : Hid (∀ w' : World, Below E2.heap.size E2 w' → w'.heap[b13]? = some (.cells #[.int .i64 px, .int .i64 py] 26 (0, 0)) ∧ w'.heap[b14]? = some (.cells #[.int .i64 qx, .int .i64 qy] 26 (0, 0))) := Lib.hid (fun w' hb => ⟨(hb.block _ hz_E2.2.1).trans K13_E2.out, (hb.block _ hz_E2.2.2).trans K14_E2.out⟩)
                refine wp_region_held_drew (S := fun w' => w'.heap[b13]? = some (.cells #[.int .i64 px, .int .i64 py] 26 (0, 0)) ∧ w'.heap[b14]? = some (.cells #[.int .i64 qx, .int .i64 qy] 26 (0, 0))) (by kernel_rfl) (G0.out _ D0) (fun hHeld => ?_)
                refine wpAnyH_take (i := 0) (oi := _) (v := ?_) rfl (by kernel_rfl) (by kernel_rfl) (by kernel_rfl) (fun _ _ _ h => h) (Or.inl ⟨by rfl, ?_⟩) (by assumption) ?_
                rotate_left
                · intro w hSw; go_simp; (try with_reducible rfl)
                try change wpAnyH _ _ _ _ _ _ _ (Act.put _ (some 65) _) _
                try simp only [act_all]
                refine wpAnyH_take (i := 1) (oi := _) (v := ?_) rfl (by kernel_rfl) (by kernel_rfl) (by kernel_rfl) (fun _ _ _ h => h) (Or.inl ⟨by rfl, ?_⟩) (by assumption) ?_
                rotate_left
                · intro w hSw; go_simp; (try with_reducible rfl)
                try change wpAnyH _ _ _ _ _ _ _ (Act.put _ (some 66) _) _
                try simp only [act_all]
                refine wpAnyH_take (i := 2) (oi := _) (v := _) rfl (by kernel_rfl) (by kernel_rfl) (by kernel_rfl) (fun _ _ _ h => h) (yieldsIf_load_mid (by rfl) 26 _ rfl b13 0 rfl ([.int .i64 px, .int .i64 py]) _ (fun w' hh => range_row hh.1 0 [.int .i64 px, .int .i64 py] (fun j hj => by simp only [Nat.zero_add, List.getElem?_toArray])) Try.underlying26 rfl (by kernel_rfl)) (by assumption) ?_
                try change wpAnyH _ _ _ _ _ _ _ (Act.put _ (some 67) _) _
                try simp only [act_all]
                refine wpAnyH_take (i := 3) (oi := _) (v := _) rfl (by kernel_rfl) (by kernel_rfl) (by kernel_rfl) (fun _ _ _ h => h) (yieldsIf_load_mid (by rfl) 26 _ rfl b14 0 rfl ([.int .i64 qx, .int .i64 qy]) _ (fun w' hh => range_row hh.2 0 [.int .i64 qx, .int .i64 qy] (fun j hj => by simp only [Nat.zero_add, List.getElem?_toArray])) Try.underlying26 rfl (by kernel_rfl)) (by assumption) ?_
                try change wpAnyH _ _ _ _ _ _ _ (Act.put _ (some 68) _) _
                try simp only [act_all]
                refine wpAnyH_take (i := 5) (oi := _) (v := ?_) rfl (by kernel_rfl) (by kernel_rfl) (by kernel_rfl) (fun _ _ _ h => h) (Or.inl ⟨by rfl, ?_⟩) (by assumption) ?_
                rotate_left
                · intro w hSw; go_simp; (try with_reducible rfl)
                try change wpAnyH _ _ _ _ _ _ _ (Act.put _ (some 6) _) _
                try simp only [act_all]
                refine wpAnyH_ready (rs := [4]) (by kernel_rfl) (by simp) ?_
                refine AllReadyH.cons (o := _) rfl (fun K hK => ?_) AllReadyH.nil
                go_simp
                have D1 : Below E2.heap.size E2 (E2.alloc (.cells #[.int .i64 px, .int .i64 py, .int .i64 qx, .int .i64 qy] 26)) := (Below.refl _ _).alloc (Nat.le_refl _) _
                have D2 : Below E2.heap.size E2 (E2.alloc (.cells #[.int .i64 px, .int .i64 py, .int .i64 qx, .int .i64 qy] 26)).drew := D1.drew
                refine hK.out _ _ (G0.out _ D2) (fun hHeld => ?_)
                clear hK K
                try simp only [act_all]
                refine wpAnyH_take (i := 6) (oi := _) (v := ?_) rfl (by kernel_rfl) (by kernel_rfl) (by kernel_rfl) (fun _ _ _ h => h) (Or.inl ⟨by rfl, ?_⟩) (by assumption) ?_
                rotate_left
                · intro w hSw; go_simp; (try with_reducible rfl)
                try change wpAnyH _ _ _ _ _ _ _ (Act.put _ (some 7) _) _
                try simp only [act_all]
                refine wpAnyH_done (by kernel_rfl) ?_ _
                clear hHeld
                have HZ : Hid (Below w.heap.size w _) := Lib.hid (HB_E2.out.trans (D2.mono HB_E2.out.size))
                have KN : Hid ((E2.alloc (.cells #[.int .i64 px, .int .i64 py, .int .i64 qx, .int .i64 qy] 26)).drew.heap[E2.heap.size]? = some (.cells #[.int .i64 px, .int .i64 py, .int .i64 qx, .int .i64 qy] 26 (0, 0))) := Lib.hid (heap_alloc_new E2 _)
                have hgz : w.heap.size ≤ E2.heap.size := HB_E2.out.size
                clear D0 D1 D2 G0
                go_wp2_with fail
                refine bodyPost_ret (v := .tuple #[.int .i64 ((k : Int) + 1), .slice (some ⟨E2.heap.size, 0, none⟩) 2 2]) (by simp [results, Try.results58, go_sem]) rfl ⟨HZ.out, Or.inr ⟨k, _, s, oo, HRM.out, rfl, hgz, ?_⟩⟩
                rw [HXY.out.1, HXY.out.2.1, HXY.out.2.2.1, HXY.out.2.2.2, HPX.out.1, HPX.out.2.1, HPX.out.2.2.1, HPX.out.2.2.2]
                exact KN.out
end Go.Proofs.Ytkkcnhhfdicppaa

namespace Lay
theorem xyC_app (a b : List (Int × Int)) : xyC (a ++ b) = xyC a ++ xyC b := by unfold xyC; rw [List.flatMap_append]
theorem xyC_take : ∀ (k : Nat) (l : List (Int × Int)), xyC (l.take k) = (xyC l).take (k * 2)
  | 0, _ => by simp [xyC]
  | k + 1, [] => by simp [xyC]
  | k + 1, c :: l => by
    have ih := xyC_take k l
    have e : xyC (c :: l) = .int .i64 c.1 :: .int .i64 c.2 :: xyC l := rfl
    have e2 : xyC (c :: l.take k) = .int .i64 c.1 :: .int .i64 c.2 :: xyC (l.take k) := rfl
    rw [List.take_succ_cons, e, e2, ih, show (k + 1) * 2 = k * 2 + 1 + 1 by omega, List.take_succ_cons, List.take_succ_cons]
theorem xyC_drop : ∀ (k : Nat) (l : List (Int × Int)), xyC (l.drop k) = (xyC l).drop (k * 2)
  | 0, _ => by simp
  | k + 1, [] => by simp [xyC]
  | k + 1, c :: l => by
    have ih := xyC_drop k l
    have e : xyC (c :: l) = .int .i64 c.1 :: .int .i64 c.2 :: xyC l := rfl
    rw [List.drop_succ_cons, e, ih, show (k + 1) * 2 = k * 2 + 1 + 1 by omega, List.drop_succ_cons, List.drop_succ_cons]
/-- Two more cells in a set, one after the other. -/
def U2 (K : Int → Int → Bool) (a b c e : Int) : Nat → Int → Int → Bool
  | 0 => K
  | 1 => fun p q => K p q || decide (p = a ∧ q = b)
  | _ => fun p q => (K p q || decide (p = a ∧ q = b)) || decide (p = c ∧ q = e)
theorem U2_next {K : Int → Int → Bool} {a b c e x y : Int} {q : Nat} (h : (q = 0 ∧ x = a ∧ y = b) ∨ (q = 1 ∧ x = c ∧ y = e)) : U2 K a b c e (q + 1) = fun p r => U2 K a b c e q p r || decide (p = x ∧ r = y) := by
  rcases h with ⟨rfl, rfl, rfl⟩ | ⟨rfl, rfl, rfl⟩ <;> rfl
/-- A path that has been made longer, its ends kept. -/
structure Lng (W H : Int) (K : Int → Int → Bool) (X Y : Nat → Int) (n : Nat) (X' Y' : Nat → Int) (n' : Nat) : Prop where
  pth : Pth W H K X' Y' n'
  x0 : X' 0 = X 0
  y0 : Y' 0 = Y 0
  x1 : X' (n' - 1) = X (n - 1)
  y1 : Y' (n' - 1) = Y (n - 1)
theorem Lng.ins {W H : Int} {K : Int → Int → Bool} {X Y X' Y' : Nat → Int} {n n' i : Nat} {s o : Int} (h : Lng W H K X Y n X' Y' n') (hr : Room W H K (blkN X' Y' n') X' Y' (n' - 1) i s o) :
    Lng W H K X Y n (ins2 X' i (nx (X' i) o) (nx (X' (i + 1)) o)) (ins2 Y' i (ny (Y' i) o) (ny (Y' (i + 1)) o)) (n' + 2) := by
  obtain ⟨h1, h2, h3, h4, h5, h6, h7⟩ := hr
  refine ⟨h.pth.ins (by omega) h2 h3 h4 h5 h6 h7, ?_, ?_, ?_, ?_⟩
  · rw [ins2_0 (by omega)]; exact h.x0
  · rw [ins2_0 (by omega)]; exact h.y0
  · rw [show n' + 2 - 1 = (n' - 1) + 2 by omega, ins2_3 (by omega)]; exact h.x1
  · rw [show n' + 2 - 1 = (n' - 1) + 2 by omega, ins2_3 (by omega)]; exact h.y1
end Lay
namespace Go.Proofs.Ytkkcnhhfdicppaa
open Go.RowKit Lay
theorem prL_xys {w : World} {b N : Nat} {v : Value} {X Y : Nat → Int} (h : w.ownsRow b 26 2 v N (xyC (prL X Y N))) : ∃ ao cap, v = .slice ao N cap ∧ XYs w ao N X Y := by
  obtain ⟨ao, cap, hv, hx⟩ := own_xys h (prL_len _ _ _)
  refine ⟨ao, cap, hv, fun h0 => ?_⟩
  obtain ⟨b, o, e, hc⟩ := hx h0
  refine ⟨b, o, e, fun i hi => ?_⟩
  have hg : (prL X Y N).getD i (0, 0) = (X i, Y i) := by
    unfold prL
    rw [List.getD_eq_getElem?_getD, List.getElem?_map, List.getElem?_range hi]
    rfl
  have := hc i hi
  simp only [hg] at this
  exact this
set_option maxRecDepth 100000 in
set_option maxHeartbeats 8000000 in
theorem pDetour_no (W H M B : Int) (nb cb : Nat) (ao : Option Addr) (XB YB : Nat → Int) (n cp : Nat) (ap : Option Addr) (X Y : Nat → Int) (more : Int) (w : World) (E : Int) (hE : rdE (vaG W H M B nb XB YB) 1 (chE W H (blkN XB YB nb) X Y n) = E) (hne : E ≠ 0)
    (hn : nb ≤ 9223372036854775807) (hc : XYs w ao nb XB YB) (hnp : n ≤ 1000000) (hp : XYs w ap n X Y) (hr : R2 X Y n) :
    Calls Try.prog 20 #[.agg #[.int .i64 W, .int .i64 H, .int .i64 M, .int .i64 B, .slice ao nb cb], .slice ap n cp, .int .i64 more] w fun e w' => e = .returned (.tuple #[.slice none 0 0, .int .i64 E]) ∧ Below w.heap.size w w' := by
  have HC := Lib.hid hc
  have HP := Lib.hid hp
  have HR := Lib.hid hr
  clear hc hp hr
  have HE := Lib.hid hE
  clear hE
  go_enter Try.func20, Try.ntmps20
  go_wp2_with fail
  refine (readPath_no W H M B nb cb ao XB YB n cp ap X Y _ E HE.out hne hn (HC.out.keep (by go_grown)) hnp (HP.out.keep (by go_grown)) HR.out).mono ?_
  rintro e w1 ⟨rfl, hb⟩
  have hbl : Below w.heap.size w w1 := Below.trans (by go_grown) (hb.mono (by simp))
  have heb : (E != 0) = true := bne_iff_ne.2 hne
  clear hb
  go_wp2_with fail
  refine bodyPost_ret (v := .tuple #[.slice none 0 0, .int .i64 E]) (by simp [results, Try.results20, go_sem]) rfl ⟨rfl, hbl.alloc hbl.size _⟩
set_option maxRecDepth 100000 in
set_option maxHeartbeats 8000000 in
theorem pDetour_bad (W H M B : Int) (nb cb : Nat) (ao : Option Addr) (XB YB : Nat → Int) (n cp : Nat) (ap : Option Addr) (X Y : Nat → Int) (more : Int) (w : World) (hv : vaG W H M B nb XB YB = true) (hE : chE W H (blkN XB YB nb) X Y n = 0) (hbad : more < 0 ∨ 200 < more ∨ more % 2 ≠ 0) (hmr : -9223372036854775808 ≤ more ∧ more ≤ 9223372036854775807)
    (hn : nb ≤ 9223372036854775807) (hc : XYs w ao nb XB YB) (hnp : n ≤ 1000000) (hp : XYs w ap n X Y) (hr : R2 X Y n) :
    Calls Try.prog 20 #[.agg #[.int .i64 W, .int .i64 H, .int .i64 M, .int .i64 B, .slice ao nb cb], .slice ap n cp, .int .i64 more] w fun e w' => e = .returned (.tuple #[.slice none 0 0, .int .i64 2]) ∧ Below w.heap.size w w' := by
  have HC := Lib.hid hc
  have HP := Lib.hid hp
  have HR := Lib.hid hr
  clear hc hp hr
  by_cases k1 : more < 0
  case pos =>
    have HE := Lib.hid hE
    have HV := Lib.hid hv
    clear hE hv
    go_enter Try.func20, Try.ntmps20
    go_wp2_with fail
    refine (readPath_ok W H M B nb cb ao XB YB n cp ap X Y _ HV.out HE.out hn (HC.out.keep (by go_grown)) hnp (HP.out.keep (by go_grown)) HR.out).mono ?_
    rintro e w1 ⟨m, rfl, hm1, hM, hb⟩
    have hb1 : Below w.heap.size w w1 := Below.trans (by go_grown) (hb.mono (by simp))
    clear hb hM hm1
    go_wp2_with fail
    refine bodyPost_ret (v := .tuple #[.slice none 0 0, .int .i64 2]) (by simp [results, Try.results20, go_sem]) rfl ⟨rfl, hb1.alloc hb1.size _⟩
  by_cases k2 : 200 < more
  case pos =>
    have HE := Lib.hid hE
    have HV := Lib.hid hv
    clear hE hv
    go_enter Try.func20, Try.ntmps20
    go_wp2_with fail
    refine (readPath_ok W H M B nb cb ao XB YB n cp ap X Y _ HV.out HE.out hn (HC.out.keep (by go_grown)) hnp (HP.out.keep (by go_grown)) HR.out).mono ?_
    rintro e w1 ⟨m, rfl, hm1, hM, hb⟩
    have hb1 : Below w.heap.size w w1 := Below.trans (by go_grown) (hb.mono (by simp))
    clear hb hM hm1
    go_wp2_with fail
    refine bodyPost_ret (v := .tuple #[.slice none 0 0, .int .i64 2]) (by simp [results, Try.results20, go_sem]) rfl ⟨rfl, hb1.alloc hb1.size _⟩
  have k3 : more % 2 ≠ 0 := by omega
  have k4 : more.tmod 2 = more % 2 := Int.tmod_eq_emod_of_nonneg (by omega)
  have k5 : (more % 2 != 0) = true := bne_iff_ne.2 k3
  have HE := Lib.hid hE
  have HV := Lib.hid hv
  clear hE hv
  go_enter Try.func20, Try.ntmps20
  go_wp2_with fail
  refine (readPath_ok W H M B nb cb ao XB YB n cp ap X Y _ HV.out HE.out hn (HC.out.keep (by go_grown)) hnp (HP.out.keep (by go_grown)) HR.out).mono ?_
  rintro e w1 ⟨m, rfl, hm1, hM, hb⟩
  have hb1 : Below w.heap.size w w1 := Below.trans (by go_grown) (hb.mono (by simp))
  clear hb hM hm1 hbad
  go_wp2_with fail
  refine bodyPost_ret (v := .tuple #[.slice none 0 0, .int .i64 2]) (by simp [results, Try.results20, go_sem]) rfl ⟨rfl, hb1.alloc hb1.size _⟩
set_option maxRecDepth 100000 in
set_option maxHeartbeats 8000000 in
theorem pDetour_ok (W H M B : Int) (nb cb : Nat) (ao : Option Addr) (XB YB : Nat → Int) (n cp : Nat) (ap : Option Addr) (X Y : Nat → Int) (more : Int) (w : World) (hv : vaG W H M B nb XB YB = true) (hE : chE W H (blkN XB YB nb) X Y n = 0) (t : Nat) (ht : more = ((2 * t : Nat) : Int)) (ht9 : t ≤ 100) (hn3 : n ≤ 300)
    (hn : nb ≤ 9223372036854775807) (hc : XYs w ao nb XB YB) (hnp : n ≤ 1000000) (hp : XYs w ap n X Y) (hr : R2 X Y n) :
    Calls Try.prog 20 #[.agg #[.int .i64 W, .int .i64 H, .int .i64 M, .int .i64 B, .slice ao nb cb], .slice ap n cp, .int .i64 more] w fun e w' => Below w.heap.size w w' ∧ ((e = .returned (.tuple #[.slice none 0 0, .int .i64 5])) ∨ ∃ (al : Option Addr) (cl : Nat) (X' Y' : Nat → Int), e = .returned (.tuple #[.slice al (n + 2 * t) cl, .int .i64 0]) ∧ XYs w' al (n + 2 * t) X' Y' ∧ Lng W H (blkN XB YB nb) X Y n X' Y' (n + 2 * t)) := by
  have HC := Lib.hid hc
  have HP := Lib.hid hp
  have HR := Lib.hid hr
  clear hc hp hr
  have hch := chE_ok.1 hE
  obtain ⟨⟨hn1, _⟩, hpa2, hpa3⟩ := paB_iff.1 hch.1
  obtain ⟨hnum, _⟩ := vaG_num hv
  have HL0 : Hid (Lng W H (blkN XB YB nb) X Y n X Y (n + 2 * 0)) := Lib.hid ⟨⟨hpa2, hpa3, hch.2⟩, rfl, rfl, rfl, rfl⟩
  have k4 : more.tmod 2 = 0 := by rw [Int.tmod_eq_emod_of_nonneg (by omega)]; omega
  have k1 : ¬ more < 0 := by omega
  have k2 : ¬ 200 < more := by omega
  have HT := Lib.hid ht
  clear hch hpa2 hpa3
  have HE := Lib.hid hE
  have HV := Lib.hid hv
  clear hE hv
  go_enter Try.func20, Try.ntmps20
  go_wp2_with fail
  refine (readPath_ok W H M B nb cb ao XB YB n cp ap X Y _ HV.out HE.out hn (HC.out.keep (by go_grown)) hnp (HP.out.keep (by go_grown)) HR.out).mono ?_
  rintro e w1 ⟨m, rfl, hm1, hM, hb⟩
  have hb1 : Below w.heap.size w w1 := Below.trans (by go_grown) (hb.mono (by simp))
  obtain ⟨b8, hb8⟩ : ∃ z, z = w1.heap.size := ⟨_, rfl⟩
  obtain ⟨w2, hw2⟩ : ∃ z, z = w1.alloc (.cells #[.int .i64 W, .int .i64 H, .int .i64 M, .int .i64 B, .slice ao nb cb, .map (some m)] 68) := ⟨_, rfl⟩
  have hc12 : Below w1.heap.size w1 w2 := by rw [hw2]; exact bal (Below.refl _ _) _
  have KB2 : Hid (w2.heap[b8]? = some (.cells #[.int .i64 W, .int .i64 H, .int .i64 M, .int .i64 B, .slice ao nb cb, .map (some m)] 68 (0, 0))) := Lib.hid (by rw [hw2, hb8]; exact heap_alloc_new w1 _)
  have KM2 : Hid (BMap w2 m nb (blkN XB YB nb)) := Lib.hid (hM.keep (hc12.block _ hM.lt))
  have HB2 : Hid (Below w.heap.size w w2) := Lib.hid (hb1.trans (hc12.mono hb1.size))
  have hz2 : b8 < w2.heap.size := by rw [hw2, hb8]; simp
  have hm2 : m < b8 := by rw [hb8]; exact hM.lt
  have h8 : w.heap.size ≤ b8 := by rw [hb8]; exact hb1.size
  have HW2 := Lib.hid hw2
  have HB8 := Lib.hid hb8
  clear hb hM hm1 hb1 hw2 hb8 hc12
  go_upto_region 2 with fail
  rw [← HW2.out]
  try rw [← HB8.out]
  clear HW2 HB8
  go_wp2_with fail
  refine (clone_any n cp ap X Y _ hn1 (by omega) (HP.out.keep HB2.out)).mono ?_
  rintro e w3 ⟨v, rfl, hown, hb⟩
  obtain ⟨BB, hBB⟩ : ∃ z, z = w2.heap.size := ⟨_, rfl⟩
  rw [← hBB] at hown
  have HO3 := Lib.hid hown
  have KB3 : Hid (w3.heap[b8]? = some (.cells #[.int .i64 W, .int .i64 H, .int .i64 M, .int .i64 B, .slice ao nb cb, .map (some m)] 68 (0, 0))) := Lib.hid ((hb.block _ hz2).trans KB2.out)
  have KM3 : Hid (BMap w3 m nb (blkN XB YB nb)) := Lib.hid (KM2.out.keep (hb.block _ KM2.out.lt))
  have HB3 : Hid (Below w.heap.size w w3) := Lib.hid (HB2.out.trans (hb.mono HB2.out.size))
  have h8B : b8 < BB := by omega
  have hB3 : BB ≤ w3.heap.size := by have := hb.size; omega
  have hvl := hown.lt
  have hap3 := HP.out.keep HB3.out
  clear hb hown hBB KB2 KM2 HB2 hz2
  go_wp2_with fail
  refine (setOf_any n cp ap X Y _ (by omega) hap3 HR.out).mono ?_
  rintro e w4 ⟨mu, rfl, hmu, hU, hb⟩
  have HO4 : Hid (w4.ownsRow BB 26 2 v (n + 2 * 0) (xyC (prL X Y (n + 2 * 0)))) := Lib.hid (own_below' HO3.out hb)
  have hvmu : v.ownBlock ≠ some mu := fun e => by have := (hvl _ e).2; omega
  have HU4 : Hid (BMap w4 mu n (blkN X Y (n + 2 * 0))) := Lib.hid hU.toB
  have KB4 : Hid (w4.heap[b8]? = some (.cells #[.int .i64 W, .int .i64 H, .int .i64 M, .int .i64 B, .slice ao nb cb, .map (some m)] 68 (0, 0))) := Lib.hid ((hb.block _ (by omega)).trans KB3.out)
  have KM4 : Hid (BMap w4 m nb (blkN XB YB nb)) := Lib.hid (KM3.out.keep (hb.block _ KM3.out.lt))
  have HB4 : Hid (Below w.heap.size w w4) := Lib.hid (HB3.out.trans (hb.mono HB3.out.size))
  have hz4 : mu < w4.heap.size ∧ BB ≤ w4.heap.size := ⟨hU.lt, by have := hb.size; omega⟩
  have hBmu : BB ≤ mu := by omega
  clear hb hU HO3 KB3 KM3 HB3 hvl hap3 hmu hB3
  have HMT : Hid (more = ((2 * (t - 0) : Nat) : Int)) := Lib.hid (by rw [HT.out]; rfl)
  go_wp2_with fail
  go_loopg [10, 12] t (fun gg v10 v12 wr => ∃ (j : Nat) (X' Y' : Nat → Int) (N2 : Nat), v12 = .int .i64 ((2 * (t - j) : Nat) : Int) ∧ j ≤ t ∧ Hid (t - j ≤ gg) ∧ N2 ≤ n + 2 * j ∧ v10.ownBlock ≠ some mu ∧ Hid (wr.ownsRow BB 26 2 v10 (n + 2 * j) (xyC (prL X' Y' (n + 2 * j)))) ∧ Hid (BMap wr mu N2 (blkN X' Y' (n + 2 * j))) ∧ Hid (Lng W H (blkN XB YB nb) X Y n X' Y' (n + 2 * j)) ∧ Hid (wr.heap[b8]? = some (.cells #[.int .i64 W, .int .i64 H, .int .i64 M, .int .i64 B, .slice ao nb cb, .map (some m)] 68 (0, 0))) ∧ Hid (BMap wr m nb (blkN XB YB nb)) ∧ Hid (Below w.heap.size w wr) ∧ mu < wr.heap.size ∧ BB ≤ wr.heap.size)
  case atStart => exact ⟨0, X, Y, n, by first | rw [HMT.out] | (rw [show ((2 * (t - 0) : Nat) : Int) = 2 * (t : Int) by omega]), Nat.zero_le _, Lib.hid (by omega), by omega, hvmu, HO4, HU4, HL0, KB4, KM4, HB4, hz4⟩
  case round =>
    obtain ⟨j, X', Y', N2, rfl, hj, HG, hN2, hvm, HO, HU, HLG, KB, KM, HB, hz⟩ := hrel
    clear HO4 HU4 HL0 KB4 KM4 HB4 hz4 hvmu HMT
    by_cases hlt : j < t
    case neg =>
      obtain rfl : j = t := by omega
      have e0 : ((2 * (j - j) : Nat) : Int) = 0 := by omega
      obtain ⟨al, cl, hv10, hxs⟩ := prL_xys HO.out
      have HX := Lib.hid hxs
      subst hv10
      clear hxs
      rw [e0]
      go_wp2_with fail
      refine bodyPost_ret (v := .tuple #[.slice al (n + 2 * j) cl, .int .i64 0]) (by simp [results, Try.results20, go_sem]) rfl ⟨HB.out, Or.inr ⟨al, cl, X', Y', rfl, HX.out, HLG.out⟩⟩
    have HGG : Hid (t - j ≤ gk) := Lib.hid HG.out
    clear HG
    obtain ⟨mi, hmi⟩ : ∃ z : Int, ((2 * (t - j) : Nat) : Int) = z := ⟨_, rfl⟩
    rw [hmi]
    have hmi0 : 0 < mi ∧ mi ≤ 200 := by omega
    have HMI := Lib.hid hmi
    clear hmi
    obtain ⟨al, cl, hv10, hxs⟩ := prL_xys HO.out
    have HX := Lib.hid hxs
    subst hv10
    clear hxs
    obtain ⟨l, hl⟩ : ∃ l, n + 2 * j = l + 1 := ⟨n + 2 * j - 1, by omega⟩
    rw [hl] at HO HU HLG HX hvm ⊢
    have hl9 : l + 1 ≤ 500 := by omega
    have hown := HO.out.lt
    have HON : Hid (∀ k, k < l + 1 → (0 ≤ X' k ∧ X' k < 30) ∧ 0 ≤ Y' k ∧ Y' k < 30) := Lib.hid (fun k hk => by
      have := (opB_iff.1 (opA_iff.1 HLG.out.pth.2.2 k hk)).1
      omega)
    have HST : Hid (∀ k, k < l → wyN X' Y' k ≠ -1) := Lib.hid (fun k hk => HLG.out.pth.2.1 k (by omega))
    obtain ⟨r0, r1, r2, r3, r4, r5⟩ : wr.cell? ⟨b8, 0, none⟩ = some (.int .i64 W) ∧ wr.cell? ⟨b8, 1, none⟩ = some (.int .i64 H) ∧ wr.cell? ⟨b8, 2, none⟩ = some (.int .i64 M) ∧ wr.cell? ⟨b8, 3, none⟩ = some (.int .i64 B) ∧ wr.cell? ⟨b8, 4, none⟩ = some (.slice ao nb cb) ∧ wr.cell? ⟨b8, 5, none⟩ = some (.map (some m)) := ⟨cell_of_blk KB.out rfl, cell_of_blk KB.out rfl, cell_of_blk KB.out rfl, cell_of_blk KB.out rfl, cell_of_blk KB.out rfl, cell_of_blk KB.out rfl⟩
    go_wp2_with fail
    refine (room_any W H M B nb cb m l cl mu ao al (blkN XB YB nb) (blkN X' Y' (l + 1)) nb N2 X' Y' _ (by omega) (by omega) KM.out HU.out (by omega) HX.out HON.out HST.out).mono ?_
    rintro e w5 ⟨hb, hcase⟩
    have HO5 := Lib.hid (own_below' HO.out hb)
    have HU5 := Lib.hid (HU.out.keep (hb.block _ HU.out.lt))
    have KB5 : Hid (w5.heap[b8]? = some (.cells #[.int .i64 W, .int .i64 H, .int .i64 M, .int .i64 B, .slice ao nb cb, .map (some m)] 68 (0, 0))) := Lib.hid ((hb.block _ (by omega)).trans KB.out)
    have KM5 := Lib.hid (KM.out.keep (hb.block _ KM.out.lt))
    have HB5 : Hid (Below w.heap.size w w5) := Lib.hid (HB.out.trans (hb.mono HB.out.size))
    have hz5 : mu < w5.heap.size ∧ BB ≤ w5.heap.size := by have := hb.size; omega
    have HLT := Lib.hid hown
    clear hb r0 r1 r2 r3 r4 r5 HO HU KB KM HB HX hown
    rcases hcase with rfl | ⟨i, g, s, o9, hrm, rfl, hg0, hgc⟩
    · have he : ∀ w : World, (binOp .eql 22 (.slice none 0 0) (.slice none 0 0)).run Try.prog w = .ok (.bool true) w := fun _ => rfl
      go_wp2_with fail
      refine bodyPost_ret (v := .tuple #[.slice none 0 0, .int .i64 5]) (by simp [results, Try.results20, go_sem]) rfl ⟨HB5.out, Or.inl rfl⟩
    have he : ∀ w : World, (binOp .eql 22 (.slice (some ⟨g, 0, none⟩) 2 2) (.slice none 0 0)).run Try.prog w = .ok (.bool false) w := fun _ => rfl
    have hil : i < l := hrm.1
    have HRM := Lib.hid hrm
    have hob1 := (opB_iff.1 hrm.2.2.2.1).1
    have hob2 := (opB_iff.1 hrm.2.2.2.2.1).1
    obtain ⟨a, hae⟩ : ∃ z, nx (X' i) o9 = z := ⟨_, rfl⟩
    obtain ⟨b, hbe⟩ : ∃ z, ny (Y' i) o9 = z := ⟨_, rfl⟩
    obtain ⟨c, hce⟩ : ∃ z, nx (X' (i + 1)) o9 = z := ⟨_, rfl⟩
    obtain ⟨d, hde⟩ : ∃ z, ny (Y' (i + 1)) o9 = z := ⟨_, rfl⟩
    rw [hae, hbe] at hob1
    rw [hce, hde] at hob2
    rw [hae, hbe, hce, hde] at hgc
    have HLN : Hid (Lng W H (blkN XB YB nb) X Y n (ins2 X' i a c) (ins2 Y' i b d) (l + 1 + 2)) := Lib.hid (by
      have h := HLG.out.ins (i := i) (s := s) (o := o9) (by rw [show l + 1 - 1 = l by omega]; exact HRM.out)
      rw [hae, hbe, hce, hde] at h
      exact h)
    have KG5 := Lib.hid hgc
    have hgl : g < w5.heap.size := (Array.getElem?_eq_some_iff.1 hgc).1
    have hgne : (Value.slice al (l + 1) cl).ownBlock ≠ some g := fun e => by have := (HLT.out _ e).2; omega
    clear hrm hgc hae hbe hce hde HLG
    go_wp2_with fail
    have hins := insert_any BB (l + 1) (i + 1) g 2 (.slice al (l + 1) cl) (xyC (prL X' Y' (l + 1))) (.int .i64 a) (.int .i64 b) (.int .i64 c) (.int .i64 d) w5 (by omega) (by omega) hz5.2 HO5.out (xyC_one _) KG5.out hgne (by intro v hv; simp only [List.mem_cons, List.not_mem_nil, or_false] at hv; rcases hv with rfl | rfl | rfl | rfl <;> rfl)
    rw [show ((i + 1 : Nat) : Int) = (i : Int) + 1 by omega] at hins
    refine hins.mono ?_
    rintro e w6 ⟨v6, rfl, hown6, hb6, hblk, hob6⟩
    have HO6 : Hid (w6.ownsRow BB 26 2 v6 (l + 1 + 2) (xyC (prL (ins2 X' i a c) (ins2 Y' i b d) (l + 1 + 2)))) := Lib.hid (by
      rw [prL_ins (by omega), xyC_app, xyC_app, xyC_take, xyC_drop]; exact hown6)
    have hk6 : ∀ k, k < w5.heap.size → k < BB ∨ k = mu ∨ k = g → w6.heap[k]? = w5.heap[k]? := fun k hk hc => by
      refine hblk k hk (fun e => ?_)
      rcases hc with h | h | h
      · have := (HO5.out.lt _ e).1; omega
      · exact hvm (by rw [e, h])
      · exact hgne (by rw [e, h])
    have HU6 := Lib.hid (HU5.out.keep (hk6 mu hz5.1 (Or.inr (Or.inl rfl))))
    have KB6 : Hid (w6.heap[b8]? = some (.cells #[.int .i64 W, .int .i64 H, .int .i64 M, .int .i64 B, .slice ao nb cb, .map (some m)] 68 (0, 0))) := Lib.hid ((hk6 _ (by omega) (Or.inl (by omega))).trans KB5.out)
    have KM6 := Lib.hid (KM5.out.keep (hk6 m (by omega) (Or.inl (by omega))))
    have KG6 : Hid (w6.heap[g]? = some (.cells #[.int .i64 a, .int .i64 b, .int .i64 c, .int .i64 d] 26 (0, 0))) := Lib.hid ((hk6 g hgl (Or.inr (Or.inr rfl))).trans KG5.out)
    have HB6 : Hid (Below w.heap.size w w6) := Lib.hid (HB5.out.trans (hb6.mono (by omega)))
    have hz6 : mu < w6.heap.size ∧ BB ≤ w6.heap.size ∧ g < w6.heap.size := by have := hb6.size; omega
    have hvm6 : v6.ownBlock ≠ some mu := by
      rcases hob6 with h | ⟨g6, h, h9⟩
      · rw [h]; exact hvm
      · rw [h]; intro e; have : g6 = mu := Option.some.inj e; omega
    have hgB : BB ≤ g := by omega
    clear hown6 hb6 hblk hob6 hk6 HO5 HU5 KB5 KM5 KG5 HB5 hz5 hvm hgl hgne he hins HON HST HLT
    go_wp2_with fail
    go_loopw [61] (fun iv wr => ∃ q : Nat, iv = .int .i64 q ∧ q ≤ 2 ∧ Hid (wr.ownsRow BB 26 2 v6 (l + 1 + 2) (xyC (prL (ins2 X' i a c) (ins2 Y' i b d) (l + 1 + 2)))) ∧ Hid (BMap wr mu (N2 + q) (U2 (blkN X' Y' (l + 1)) a b c d q)) ∧ Hid (wr.heap[b8]? = some (.cells #[.int .i64 W, .int .i64 H, .int .i64 M, .int .i64 B, .slice ao nb cb, .map (some m)] 68 (0, 0))) ∧ Hid (BMap wr m nb (blkN XB YB nb)) ∧ Hid (wr.heap[g]? = some (.cells #[.int .i64 a, .int .i64 b, .int .i64 c, .int .i64 d] 26 (0, 0))) ∧ Hid (Below w.heap.size w wr) ∧ mu < wr.heap.size ∧ BB ≤ wr.heap.size ∧ g < wr.heap.size) (fun iv _ => 2 - (intOf iv).toNat)
    case atStart => exact ⟨0, rfl, by omega, HO6, HU6, KB6, KM6, KG6, HB6, hz6⟩
    case round =>
      obtain ⟨q, rfl, hq, HO, HU, KB, KM, KG, HB, hz⟩ := hrel
      clear HO6 HU6 KB6 KM6 KG6 HB6 hz6
      by_cases hq2 : q < 2
      case neg =>
        obtain rfl : q = 2 := by omega
        have HU' : Hid (BMap wr mu (N2 + 2) (blkN (ins2 X' i a c) (ins2 Y' i b d) (l + 1 + 2))) := Lib.hid (by
          have h : blkN (ins2 X' i a c) (ins2 Y' i b d) (l + 1 + 2) = U2 (blkN X' Y' (l + 1)) a b c d 2 := by funext p r; rw [blkN_ins (by omega)]; rfl
          rw [h]; exact HU.out)
        have e2 : n + 2 * (j + 1) = l + 1 + 2 := by omega
        have HM2 : Hid (mi - 2 = ((2 * (t - (j + 1)) : Nat) : Int)) := Lib.hid (by have := HMI.out; omega)
        have hw : IntKind.i64.wrap (mi - 2) = mi - 2 := by rw [IntKind.wrap_i64]; omega
        go_wp2_with fail
        go_roundg (t - (j + 1))
        case measure => have := HGG.out; omega
        case rel => exact ⟨j + 1, ins2 X' i a c, ins2 Y' i b d, N2 + 2, by rw [HM2.out], by omega, Lib.hid (Nat.le_refl _), by omega, hvm6, by rw [e2]; exact HO, by rw [e2]; exact HU', by rw [e2]; exact HLN, KB, KM, HB, hz.1, hz.2.1⟩
      obtain ⟨x, y, hxy, hc0, hc1, hxr⟩ : ∃ x y : Int, ((q = 0 ∧ x = a ∧ y = b) ∨ (q = 1 ∧ x = c ∧ y = d)) ∧ wr.cell? ⟨g, q * 2, none⟩ = some (.int .i64 x) ∧ wr.cell? ⟨g, q * 2 + 1, none⟩ = some (.int .i64 y) ∧ (0 ≤ x ∧ x < 30) ∧ 0 ≤ y ∧ y < 30 := by
        have : q = 0 ∨ q = 1 := by omega
        rcases this with rfl | rfl
        · exact ⟨a, b, Or.inl ⟨rfl, rfl, rfl⟩, cell_of_blk KG.out rfl, cell_of_blk KG.out rfl, by omega⟩
        · exact ⟨c, d, Or.inr ⟨rfl, rfl, rfl⟩, cell_of_blk KG.out rfl, cell_of_blk KG.out rfl, by omega⟩
      have HUa : BMap (wr.alloc (.cells #[.int .i64 x, .int .i64 y] 26)) mu (N2 + q) (U2 (blkN X' Y' (l + 1)) a b c d q) := HU.out.keep (Below.heap_alloc _ _ _ hz.1)
      obtain ⟨w7, hrun, hB7, hg7⟩ := HUa.put (by unfold maxLen; omega) (wf7 (x := x) (by omega) (by omega)) (wf7 (x := y) (by omega) (by omega))
      have hba : Below wr.heap.size wr (wr.alloc (.cells #[.int .i64 x, .int .i64 y] 26)) := bal (Below.refl _ _) _
      have hk7 : ∀ k, k < wr.heap.size → k ≠ mu → w7.heap[k]? = wr.heap[k]? := fun k hk hn => (hg7.block _ (by simp; omega) (fun e => by cases e; exact hn rfl)).trans (hba.block _ hk)
      have HU7 : Hid (BMap w7 mu (N2 + (q + 1)) (U2 (blkN X' Y' (l + 1)) a b c d (q + 1))) := Lib.hid (by rw [U2_next hxy]; exact hB7)
      have HO7 : Hid (w7.ownsRow BB 26 2 v6 (l + 1 + 2) (xyC (prL (ins2 X' i a c) (ins2 Y' i b d) (l + 1 + 2)))) := Lib.hid ((HO.out.alloc _).kept hg7 (by
        cases hv : v6.ownBlock with
        | none => exact .inl rfl
        | some b => exact .inr (fun e => by cases e; exact hvm6 hv)))
      have KB7 : Hid (w7.heap[b8]? = some (.cells #[.int .i64 W, .int .i64 H, .int .i64 M, .int .i64 B, .slice ao nb cb, .map (some m)] 68 (0, 0))) := Lib.hid ((hk7 _ (by omega) (by omega)).trans KB.out)
      have KM7 := Lib.hid (KM.out.keep (hk7 m (by omega) (by omega)))
      have KG7 : Hid (w7.heap[g]? = some (.cells #[.int .i64 a, .int .i64 b, .int .i64 c, .int .i64 d] 26 (0, 0))) := Lib.hid ((hk7 g (by omega) (by omega)).trans KG.out)
      have HB7 : Hid (Below w.heap.size w w7) := Lib.hid ((HB.out.alloc HB.out.size _).grown hg7 (by have := HB.out.size; simp; omega) (by intro k e; cases e; omega))
      have hz7 : mu < w7.heap.size ∧ BB ≤ w7.heap.size ∧ g < w7.heap.size := by have := hg7.size; simp at this; omega
      clear HUa hba hk7 hB7 hg7 HO HU KB KM KG HB
      go_wp2_with fail
      go_roundw
      case rel => exact ⟨q + 1, by go_num, by omega, HO7, HU7, KB7, KM7, KG7, HB7, hz7⟩
      case measure => simp [intOf]; omega
end Go.Proofs.Ytkkcnhhfdicppaa
