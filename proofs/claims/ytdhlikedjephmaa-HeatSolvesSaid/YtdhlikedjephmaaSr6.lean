import Derived.Test.YtdhlikedjephmaaSp6
import Derived.Test.YtdhlikedjephmaaWd6
namespace Go.Proofs.Ytdhlikedjephmaa
open Go.RowKit Heat
theorem Rowsw.at {w : World} {ao : Option Addr} {N : Nat} {A : Nat → Option Addr} {l c : Nat → Nat} {F : Nat → Nat → Int} (h : Rowsw w ao N A l c F) (hok : okG N l F = true) :
    ∀ i, i < N → ∃ b o b1 o1, ao = some ⟨b, o, none⟩ ∧ b < w.heap.size ∧ w.cell? ⟨b, o + i, none⟩ = some (.slice (some ⟨b1, o1, none⟩) N (c i)) ∧ b1 < w.heap.size ∧ ∀ j, j < N → w.cell? ⟨b1, o1 + j, none⟩ = some (.int .i64 (F i j)) := by
  intro i hi
  obtain ⟨hN, hr⟩ := okG_iff.1 hok
  obtain ⟨b, o, hao, hc⟩ := h.1 (by omega)
  obtain ⟨_, hI⟩ := h.2 i hi
  rw [(hr i hi).1] at hI
  obtain ⟨b1, o1, hA, hcell⟩ := hI (by omega)
  have hci := hc i hi
  rw [(hr i hi).1, hA] at hci
  exact ⟨b, o, b1, o1, hao, World.block_lt_of_cell? w _ hci, hci, World.block_lt_of_cell? w _ (hcell 0 (by omega)), hcell⟩
theorem sumI_bd2 {f : Nat → Int} {n : Nat} (h : ∀ j, j < n → -200 ≤ f j ∧ f j ≤ 200) {k : Nat} (hk : k ≤ n) : -200 * (k : Int) ≤ sumI f k ∧ sumI f k ≤ 200 * k := sum_abs (fun j hj => h j (by omega))
set_option maxRecDepth 100000 in
set_option maxHeartbeats 8000000 in
theorem rSpread_any (N cap : Nat) (ao : Option Addr) (A : Nat → Option Addr) (l c : Nat → Nat) (F : Nat → Nat → Int) (m dap : Nat) (bo : Option Addr) (p : Nat → Int) (x : Int) (w : World) (hN : N ≤ 9223372036854775807) (hR : Rowsw w ao N A l c F) (hm : m ≤ 9223372036854775807) (hI : Ints w bo m p) :
    Calls Try.prog 24 #[.agg #[.slice ao N cap], .slice bo m dap, .int .i64 x] w fun e w' => e = .returned (.tuple #[.agg #[.int .i64 (spV N l F m p x).1, .int .i64 (spV N l F m p x).2], .int .i64 (spE N l F m p x)]) ∧ Below w.heap.size w w' := by
  have HG := Lib.hid hR
  have HI := Lib.hid hI
  clear hR hI
  obtain ⟨bk, hbk⟩ : ∃ bk, okG N l F = bk := ⟨_, rfl⟩
  have HOK := Lib.hid hbk
  clear hbk
  have HX0 : Hid (Intw ((w.alloc (Obj.cells #[.slice ao N cap] 40)).alloc (Obj.cells #[.int .i64 0, .int .i64 0] 33)) (w.heap.size + 1) 2 (fun _ => 0)) := Lib.hid (fun j hj => by rcases (show j = 0 ∨ j = 1 by omega) with rfl | rfl <;> exact ⟨by go_cell, by go_cell⟩)
  have hbx : ((w.alloc (Obj.cells #[.slice ao N cap] 40)).alloc (Obj.cells #[.int .i64 0, .int .i64 0] 33)).cell? ⟨w.heap.size, 0, none⟩ = some (.slice ao N cap) := by go_cell
  have hb0 : Below w.heap.size w ((w.alloc (Obj.cells #[.slice ao N cap] 40)).alloc (Obj.cells #[.int .i64 0, .int .i64 0] 33)) := by go_grown
  have hsz : w.heap.size + 1 < ((w.alloc (Obj.cells #[.slice ao N cap] 40)).alloc (Obj.cells #[.int .i64 0, .int .i64 0] 33)).heap.size := by simp
  go_enter Try.func24, Try.ntmps24
  go_upto_region 1 with fail
  generalize ((w.alloc (Obj.cells #[.slice ao N cap] 40)).alloc (Obj.cells #[.int .i64 0, .int .i64 0] 33)) = W at *
  have HB0 := Lib.hid hb0
  clear hb0
  go_wp2_with fail
  refine (rhValid_any N cap ao A l c F _ hN (HG.out.keep (HB0.out.mono (Nat.le_refl _)))).mono ?_
  rw [HOK.out]
  rintro e w1 ⟨rfl, hb⟩
  have HB1 := Lib.hid (HB0.out.trans (hb.mono HB0.out.size))
  have HX1 := Lib.hid (HX0.out.keep hb)
  have hbx1 := (hb.cell (p := ⟨w.heap.size, 0, none⟩) (by simp only; omega)).trans hbx
  have hs1 : w.heap.size + 1 < w1.heap.size := by have := hb.size; omega
  clear hb HB0 HX0 hbx hsz
  obtain ⟨⟨e0, e1⟩, e2, e3⟩ : _ ∧ _ := ⟨HX1.out 0 (by omega), HX1.out 1 (by omega)⟩
  have hbl := HB1.out
  cases bk with
  | false =>
    have HE : Hid (spV N l F m p x = (0, 0) ∧ spE N l F m p x = 60) := Lib.hid (sp_no HOK.out)
    clear HB1 HX1
    go_wp2_with fail
    refine bodyPost_ret (v := .tuple #[.agg #[.int .i64 0, .int .i64 0], .int .i64 60]) (by simp [results, Try.results24, go_sem, *]) rfl ⟨by rw [HE.out.1, HE.out.2], by go_grown⟩
  | true =>
    obtain ⟨hNN, hF⟩ := okG_iff.1 HOK.out
    have hN5 := hNN.2
    have HF : Hid (∀ i, i < N → ∀ j, j < N → -200 ≤ F i j ∧ F i j ≤ 200) := Lib.hid (fun i hi => (hF i hi).2)
    have HRA := Lib.hid (HG.out.at HOK.out)
    clear hF hNN
    obtain ⟨bb, hbb⟩ : ∃ bb, inB m p N 0 1000 = bb := ⟨_, rfl⟩
    have HBB := Lib.hid hbb
    clear hbb
    go_wp2_with fail
    refine (rIsPowers_any m dap bo p N _ hm (HI.out.keep HB1.out)).mono ?_
    rw [HBB.out]
    rintro e w4 ⟨rfl, hb⟩
    have HB4 := Lib.hid (HB1.out.trans (hb.mono HB1.out.size))
    have HX4 := Lib.hid (HX1.out.keep hb)
    have hbx4 := (hb.cell (p := ⟨w.heap.size, 0, none⟩) (by simp only; omega)).trans hbx1
    have hs4 : w.heap.size + 1 < w4.heap.size := by have := hb.size; omega
    clear hb HX1 HB1 e0 e1 e2 e3 hbl hbx1 hs1
    cases bb with
    | false =>
      obtain ⟨⟨e0, e1⟩, e2, e3⟩ : _ ∧ _ := ⟨HX4.out 0 (by omega), HX4.out 1 (by omega)⟩
      have hbl := HB4.out
      have HE : Hid (spV N l F m p x = (0, 0) ∧ spE N l F m p x = 2) := Lib.hid (sp_arg HOK.out (by rw [HBB.out]; rfl))
      clear HB4 HX4
      go_wp2_with fail
      refine bodyPost_ret (v := .tuple #[.agg #[.int .i64 0, .int .i64 0], .int .i64 2]) (by simp [results, Try.results24, go_sem, *]) rfl ⟨by rw [HE.out.1, HE.out.2], by go_grown⟩
    | true =>
      obtain ⟨bx, hbx2⟩ : ∃ bx, (decide ((0 : Int) ≤ x) && decide (x ≤ (1000 : Int))) = bx := ⟨_, rfl⟩
      have HBX := Lib.hid hbx2
      clear hbx2
      go_wp2_with fail
      refine (rWithin_any _ _ _ _).mono ?_
      rw [HBX.out]
      rintro e w5 ⟨rfl, hb⟩
      have HB5 := Lib.hid (HB4.out.trans (hb.mono HB4.out.size))
      have HX5 := Lib.hid (HX4.out.keep hb)
      have hbx5 := (hb.cell (p := ⟨w.heap.size, 0, none⟩) (by simp only; omega)).trans hbx4
      have hs5 : w.heap.size + 1 < w5.heap.size := by have := hb.size; omega
      clear hb HX4 HB4 hbx4 hs4
      cases bx with
      | false =>
        obtain ⟨⟨e0, e1⟩, e2, e3⟩ : _ ∧ _ := ⟨HX5.out 0 (by omega), HX5.out 1 (by omega)⟩
        have hbl := HB5.out
        have HE : Hid (spV N l F m p x = (0, 0) ∧ spE N l F m p x = 2) := Lib.hid (sp_arg HOK.out (by rw [HBB.out, HBX.out]; rfl))
        clear HB5 HX5
        go_wp2_with fail
        refine bodyPost_ret (v := .tuple #[.agg #[.int .i64 0, .int .i64 0], .int .i64 2]) (by simp [results, Try.results24, go_sem, *]) rfl ⟨by rw [HE.out.1, HE.out.2], by go_grown⟩
      | true =>
        have HE : Hid (spV N l F m p x = (spA N F p x N, spB N F p x N) ∧ spE N l F m p x = 0) := Lib.hid (sp_ok HOK.out (by rw [HBB.out, HBX.out]; rfl))
        have hx01 : 0 ≤ x ∧ x ≤ 1000 := by have h := HBX.out; simp only [Bool.and_eq_true, decide_eq_true_iff] at h; exact h
        have hmN : N = m := by have := (inB_iff.1 HBB.out).1; omega
        subst hmN
        have HP : Hid (∀ k, k < N → 0 ≤ p k ∧ p k ≤ 1000) := Lib.hid (fun k hk => (inB_iff.1 HBB.out).2 k hk)
        have wx1 : wrap64 (1000 - x) = 1000 - x := by simp only [wrap64]; omega
        have wx2 : wrap64 (1000 + x) = 1000 + x := by simp only [wrap64]; omega
        have HXX := Lib.hid hx01
        have HWX := Lib.hid (And.intro wx1 wx2)
        clear hx01 wx1 wx2
        have hbA : Below w5.heap.size w5 (w5.alloc (Obj.cells #[.int .i64 0, .int .i64 0] 33)) := (Below.refl _ _).alloc (Nat.le_refl _) _
        have HX6 := Lib.hid (HX5.out.keep hbA)
        have HB6 := Lib.hid (HB5.out.trans (hbA.mono HB5.out.size))
        have HE6 : Hid (Intw (w5.alloc (Obj.cells #[.int .i64 0, .int .i64 0] 33)) w5.heap.size 2 (fun _ => 0)) := Lib.hid (fun j hj => by rcases (show j = 0 ∨ j = 1 by omega) with rfl | rfl <;> exact ⟨by go_cell, by go_cell⟩)
        have hbx6 : (w5.alloc (Obj.cells #[.int .i64 0, .int .i64 0] 33)).cell? ⟨w.heap.size, 0, none⟩ = some (.slice ao N cap) := (hbA.cell (p := ⟨w.heap.size, 0, none⟩) (by simp only; omega)).trans hbx5
        have hs6 : w5.heap.size < (w5.alloc (Obj.cells #[.int .i64 0, .int .i64 0] 33)).heap.size := by simp
        have hh : w.heap.size + 1 < w5.heap.size := hs5
        clear hbA HX5 HB5 hbx5 hs5
        go_upto_region 7 with fail
        generalize (w5.alloc (Obj.cells #[.int .i64 0, .int .i64 0] 33)) = W6 at *
        generalize w5.heap.size = h at *
        go_wp2_with fail
        go_loopw [10] (fun iv wr => ∃ (z : Int) (k : Nat), iv = .int .i64 z ∧ z = k ∧ k ≤ N ∧ Hid (Intw wr (w.heap.size + 1) 2 (fun _ => 0)) ∧ Hid (Intw wr h 2 (fun j => if j = 0 then spA N F p x k else spB N F p x k)) ∧ Hid (Below w.heap.size w wr) ∧ wr.cell? ⟨w.heap.size, 0, none⟩ = some (.slice ao N cap) ∧ h < wr.heap.size) (fun iv _ => N - (intOf iv).toNat)
        case atStart => exact ⟨0, 0, rfl, by omega, by omega, HX6, Lib.hid (HE6.out.congr fun j _ => by unfold spA spB; split <;> rfl), HB6, hbx6, hs6⟩
        case round =>
          obtain ⟨z, k, rfl, hz, hk, HX, HEN, HB, hbxr, hsw⟩ := hrel
          by_cases hlt : k < N
          · have hlt' : z < (N : Int) := by omega
            subst hz
            have k0 : (0 : Int) ≤ (k : Int) := by omega
            have wz : wrap64 ((k : Int) + 1) = (k : Int) + 1 := by simp only [wrap64]; omega
            clear HX6 HE6 HB6 hbx6 hs6
            go_wp2_with fail
            go_loopw [11, 12] (fun sv jv wr2 => ∃ (s y : Int) (i : Nat), sv = .int .i64 s ∧ jv = .int .i64 y ∧ y = i ∧ i ≤ N ∧ Hid (s = sumI (fun i => F i k) i) ∧ wr = wr2) (fun _ jv _ => N - (intOf jv).toNat)
            case atStart => exact ⟨0, 0, 0, rfl, rfl, by omega, by omega, Lib.hid rfl, by first | rfl | trivial⟩
            case round =>
              obtain ⟨s, y, i, rfl, rfl, hy, hi, HS, rfl⟩ := hrel
              by_cases hit : i < N
              · have hit' : y < (N : Int) := by omega
                subst hy
                have i00 : (0 : Int) ≤ (i : Int) := by omega
                have wy : wrap64 ((i : Int) + 1) = (i : Int) + 1 := by simp only [wrap64]; omega
                obtain ⟨b, o, b1, o1, hao, hbl, hrow, hb1l, hcl⟩ := HRA.out i hit
                have g0 := (HB.out.cell (p := ⟨b, o + i, none⟩) hbl).trans hrow
                have g1 := (HB.out.cell (p := ⟨b1, o1 + k, none⟩) hb1l).trans (hcl k hlt)
                have hfb := HF.out i hit k hlt
                have hsb := sumI_bd2 (f := fun i => F i k) (n := N) (fun j hj => HF.out j hj k hlt) hi
                rw [← HS.out] at hsb
                obtain ⟨v, hv⟩ : ∃ v, F i k = v := ⟨_, rfl⟩
                rw [hv] at g1 hfb
                have ws : wrap64 (s + v) = s + v := by clear wy wz; simp only [wrap64]; omega
                have HS2 : Hid (s + v = sumI (fun i => F i k) (i + 1)) := Lib.hid (by rw [HS.out, ← hv]; rfl)
                clear hcl hrow hfb hsb hv HS
                subst hao
                go_wp2_with fail
                go_roundw
                case rel => exact ⟨s + v, (i : Int) + 1, i + 1, by first | rfl | rw [ws], by first | rfl | rw [wy], by omega, by omega, HS2, by first | rfl | trivial⟩
                case measure => first | (simp [intOf]; done) | (simp [intOf]; omega)
              · obtain rfl : i = N := by omega
                subst hy
                have HCS : Hid (colS i F k = s) := Lib.hid HS.out.symm
                clear HS HRA
                obtain ⟨wx1, wx2⟩ := HWX.out
                obtain ⟨b, o, rfl, hcell⟩ := (HI.out.keep HB.out) (Nat.zero_lt_of_lt hlt)
                have g0 := hcell k hlt
                clear hcell
                have hbd := spL_bd (x := x) hN5 HF.out hlt (HP.out k hlt) HXX.out
                have hbs := spA_bd hN5 HF.out HP.out HXX.out k hk
                obtain ⟨q, hq⟩ : ∃ q, p k = q := ⟨_, rfl⟩
                obtain ⟨lo, hlo⟩ : ∃ lo, spL i F p x k = lo := ⟨_, rfl⟩
                obtain ⟨hi, hhi⟩ : ∃ hi, spH i F p x k = hi := ⟨_, rfl⟩
                obtain ⟨sa, hsa⟩ : ∃ sa, spA i F p x k = sa := ⟨_, rfl⟩
                obtain ⟨sb, hsb⟩ : ∃ sb, spB i F p x k = sb := ⟨_, rfl⟩
                have hlo2 : s * q * (1000 - x) = lo := by rw [← hlo, ← HCS.out, ← hq]; rfl
                have hhi2 : s * q * (1000 + x) = hi := by rw [← hhi, ← HCS.out, ← hq]; rfl
                have HSA : Hid (spA i F p x (k + 1) = sa + min lo hi ∧ spB i F p x (k + 1) = sb + max lo hi) := Lib.hid (by rw [← hsa, ← hsb, ← hlo, ← hhi]; exact ⟨rfl, rfl⟩)
                rw [hq] at g0 hbd
                rw [HCS.out, hlo, hhi] at hbd
                rw [hsa, hsb] at hbs
                have v1 : wrap64 (s * q) = s * q := by clear wx1 wx2 wz; simp only [wrap64]; omega
                have v2 : wrap64 (s * q * (1000 - x)) = lo := by clear wx1 wx2 wz v1; rw [hlo2]; simp only [wrap64]; omega
                have v3 : wrap64 (s * q * (1000 + x)) = hi := by clear wx1 wx2 wz v1 v2; rw [hhi2]; simp only [wrap64]; omega
                have v4 : wrap64 (sa + lo) = sa + lo := by clear wx1 wx2 wz v1 v2 v3; simp only [wrap64]; omega
                have v5 : wrap64 (sa + hi) = sa + hi := by clear wx1 wx2 wz v1 v2 v3 v4; simp only [wrap64]; omega
                have v6 : wrap64 (sb + lo) = sb + lo := by clear wx1 wx2 wz v1 v2 v3 v4 v5; simp only [wrap64]; omega
                have v7 : wrap64 (sb + hi) = sb + hi := by clear wx1 wx2 wz v1 v2 v3 v4 v5 v6; simp only [wrap64]; omega
                have HV := Lib.hid (And.intro v4 (And.intro v5 (And.intro v6 v7)))
                have HE2 : Hid (Intw wr.drew h 2 (fun j => if j = 0 then sa else sb)) := by rw [hsa, hsb] at HEN; exact Lib.hid HEN.out
                have HX2 : Hid (Intw wr.drew (w.heap.size + 1) 2 (fun _ => 0)) := Lib.hid HX.out
                have HB2 : Hid (Below w.heap.size w wr.drew) := Lib.hid HB.out.drew
                have hbx2 : wr.drew.cell? ⟨w.heap.size, 0, none⟩ = some (.slice ao i cap) := hbxr
                have hs2 : h < wr.drew.heap.size := hsw
                clear hbd hbs hq hlo hhi hsa hsb HEN hlo2 hhi2 v4 v5 v6 v7 HX HB
                go_wp2_with fail
                go_region
                go_upto_region 16 with fail
                simp only [v1, v2, v3]
                clear v1 v2 v3 wx1 wx2 g0 hbxr hsw
                generalize wr.drew = w7 at *
                obtain ⟨⟨a0, a1⟩, ⟨b0, b1⟩⟩ : _ ∧ _ := ⟨HE2.out 0 (by omega), HE2.out 1 (by omega)⟩
                replace a0 : w7.cell? ⟨h, 0, none⟩ = some (.int .i64 sa) := a0
                replace b0 : w7.cell? ⟨h, 1, none⟩ = some (.int .i64 sb) := b0
                have hh2 : w.heap.size < h := by omega
                by_cases hlh : lo < hi
                · have hm1 : min lo hi = lo := by omega
                  have hm2 : max lo hi = hi := by omega
                  have hl1 : ¬ hi ≤ lo := by omega
                  have hl2 : ¬ hi < lo := by omega
                  have hl3 : lo ≤ hi := by omega
                  have HEn : Hid (Intw ((w7.setCell ⟨h, 0, none⟩ (.int .i64 (sa + lo))).setCell ⟨h, 1, none⟩ (.int .i64 (sb + hi))) h 2 (fun j => if j = 0 then spA i F p x (k + 1) else spB i F p x (k + 1))) := Lib.hid (((HE2.out.store (j := 0) (by omega) (sa + lo)).store (j := 1) (by omega) (sb + hi)).congr fun j hj => by
                    rcases (show j = 0 ∨ j = 1 by omega) with rfl | rfl
                    · rw [if_pos rfl, HSA.out.1, hm1]; rfl
                    · rw [if_neg (by decide), HSA.out.2, hm2]; rfl)
                  have HXn := Lib.hid ((HX2.out.other (m := h) (k := 0) (v := .int .i64 (sa + lo)) (by omega)).other (m := h) (k := 1) (v := .int .i64 (sb + hi)) (by omega))
                  have HBn := Lib.hid ((HB2.out.setCell (p := ⟨h, 0, none⟩) (by simp only; omega) (.int .i64 (sa + lo))).setCell (p := ⟨h, 1, none⟩) (by simp only; omega) (.int .i64 (sb + hi)))
                  have hne : ¬ h = w.heap.size := by omega
                  have hbxn : ((w7.setCell ⟨h, 0, none⟩ (.int .i64 (sa + lo))).setCell ⟨h, 1, none⟩ (.int .i64 (sb + hi))).cell? ⟨w.heap.size, 0, none⟩ = some (.slice ao i cap) := by go_cell
                  have hsn : h < ((w7.setCell ⟨h, 0, none⟩ (.int .i64 (sa + lo))).setCell ⟨h, 1, none⟩ (.int .i64 (sb + hi))).heap.size := by simpa using hs2
                  obtain ⟨v4, v5, v6, v7⟩ := HV.out
                  clear HX2 HE2 HB2 hm1 hm2 HSA HV
                  go_wp2_with fail
                  go_roundw
                  case rel => exact ⟨(k : Int) + 1, k + 1, by first | rfl | rw [wz], by clear v4 v5 v6 v7 wz; omega, by clear v4 v5 v6 v7 wz; omega, HXn, HEn, HBn, hbxn, hsn⟩
                  case measure => clear v4 v5 v6 v7 wz; first | (simp [intOf]; done) | (simp [intOf]; omega)
                by_cases hlh2 : hi < lo
                · have hm1 : min lo hi = hi := by omega
                  have hm2 : max lo hi = lo := by omega
                  have hl3 : hi ≤ lo := by omega
                  have HEn : Hid (Intw ((w7.setCell ⟨h, 0, none⟩ (.int .i64 (sa + hi))).setCell ⟨h, 1, none⟩ (.int .i64 (sb + lo))) h 2 (fun j => if j = 0 then spA i F p x (k + 1) else spB i F p x (k + 1))) := Lib.hid (((HE2.out.store (j := 0) (by omega) (sa + hi)).store (j := 1) (by omega) (sb + lo)).congr fun j hj => by
                    rcases (show j = 0 ∨ j = 1 by omega) with rfl | rfl
                    · rw [if_pos rfl, HSA.out.1, hm1]; rfl
                    · rw [if_neg (by decide), HSA.out.2, hm2]; rfl)
                  have HXn := Lib.hid ((HX2.out.other (m := h) (k := 0) (v := .int .i64 (sa + hi)) (by omega)).other (m := h) (k := 1) (v := .int .i64 (sb + lo)) (by omega))
                  have HBn := Lib.hid ((HB2.out.setCell (p := ⟨h, 0, none⟩) (by simp only; omega) (.int .i64 (sa + hi))).setCell (p := ⟨h, 1, none⟩) (by simp only; omega) (.int .i64 (sb + lo)))
                  have hne : ¬ h = w.heap.size := by omega
                  have hbxn : ((w7.setCell ⟨h, 0, none⟩ (.int .i64 (sa + hi))).setCell ⟨h, 1, none⟩ (.int .i64 (sb + lo))).cell? ⟨w.heap.size, 0, none⟩ = some (.slice ao i cap) := by go_cell
                  have hsn : h < ((w7.setCell ⟨h, 0, none⟩ (.int .i64 (sa + hi))).setCell ⟨h, 1, none⟩ (.int .i64 (sb + lo))).heap.size := by simpa using hs2
                  obtain ⟨v4, v5, v6, v7⟩ := HV.out
                  clear HX2 HE2 HB2 hm1 hm2 HSA HV
                  go_wp2_with fail
                  go_roundw
                  case rel => exact ⟨(k : Int) + 1, k + 1, by first | rfl | rw [wz], by clear v4 v5 v6 v7 wz; omega, by clear v4 v5 v6 v7 wz; omega, HXn, HEn, HBn, hbxn, hsn⟩
                  case measure => clear v4 v5 v6 v7 wz; first | (simp [intOf]; done) | (simp [intOf]; omega)
                · obtain rfl : lo = hi := by omega
                  have hm1 : min lo lo = lo := by omega
                  have hm2 : max lo lo = lo := by omega
                  have hl3 : lo ≤ lo := by omega
                  have HEn : Hid (Intw ((w7.setCell ⟨h, 0, none⟩ (.int .i64 (sa + lo))).setCell ⟨h, 1, none⟩ (.int .i64 (sb + lo))) h 2 (fun j => if j = 0 then spA i F p x (k + 1) else spB i F p x (k + 1))) := Lib.hid (((HE2.out.store (j := 0) (by omega) (sa + lo)).store (j := 1) (by omega) (sb + lo)).congr fun j hj => by
                    rcases (show j = 0 ∨ j = 1 by omega) with rfl | rfl
                    · rw [if_pos rfl, HSA.out.1, hm1]; rfl
                    · rw [if_neg (by decide), HSA.out.2, hm2]; rfl)
                  have HXn := Lib.hid ((HX2.out.other (m := h) (k := 0) (v := .int .i64 (sa + lo)) (by omega)).other (m := h) (k := 1) (v := .int .i64 (sb + lo)) (by omega))
                  have HBn := Lib.hid ((HB2.out.setCell (p := ⟨h, 0, none⟩) (by simp only; omega) (.int .i64 (sa + lo))).setCell (p := ⟨h, 1, none⟩) (by simp only; omega) (.int .i64 (sb + lo)))
                  have hne : ¬ h = w.heap.size := by omega
                  have hbxn : ((w7.setCell ⟨h, 0, none⟩ (.int .i64 (sa + lo))).setCell ⟨h, 1, none⟩ (.int .i64 (sb + lo))).cell? ⟨w.heap.size, 0, none⟩ = some (.slice ao i cap) := by go_cell
                  have hsn : h < ((w7.setCell ⟨h, 0, none⟩ (.int .i64 (sa + lo))).setCell ⟨h, 1, none⟩ (.int .i64 (sb + lo))).heap.size := by simpa using hs2
                  obtain ⟨v4, v5, v6, v7⟩ := HV.out
                  clear HX2 HE2 HB2 hm1 hm2 HSA HV
                  go_wp2_with fail
                  go_roundw
                  case rel => exact ⟨(k : Int) + 1, k + 1, by first | rfl | rw [wz], by clear v4 v5 v6 v7 wz; omega, by clear v4 v5 v6 v7 wz; omega, HXn, HEn, HBn, hbxn, hsn⟩
                  case measure => clear v4 v5 v6 v7 wz; first | (simp [intOf]; done) | (simp [intOf]; omega)
          · obtain rfl : k = N := by omega
            obtain ⟨⟨a0, a1⟩, ⟨b0, b1⟩⟩ : _ ∧ _ := ⟨HEN.out 0 (by omega), HEN.out 1 (by omega)⟩
            obtain ⟨⟨e0, e1⟩, e2, e3⟩ : _ ∧ _ := ⟨HX.out 0 (by omega), HX.out 1 (by omega)⟩
            replace a0 : wr.cell? ⟨h, 0, none⟩ = some (.int .i64 (spA k F p x k)) := a0
            replace b0 : wr.cell? ⟨h, 1, none⟩ = some (.int .i64 (spB k F p x k)) := b0
            obtain ⟨sa, hsa⟩ : ∃ sa, spA k F p x k = sa := ⟨_, rfl⟩
            obtain ⟨sb, hsb⟩ : ∃ sb, spB k F p x k = sb := ⟨_, rfl⟩
            rw [hsa] at a0
            rw [hsb] at b0
            rw [hsa, hsb] at HE
            have hbl := HB.out
            have n3 : w.heap.size + 1 < wr.heap.size := by omega
            clear HX HEN HB HX6 HE6 HB6 hs6 hsa hsb
            go_wp2_with fail
            refine bodyPost_ret (v := .tuple #[.agg #[.int .i64 sa, .int .i64 sb], .int .i64 0]) (by simp [results, Try.results24, go_sem, *]) rfl ⟨by rw [HE.out.1, HE.out.2], by go_grown⟩
end Go.Proofs.Ytdhlikedjephmaa
