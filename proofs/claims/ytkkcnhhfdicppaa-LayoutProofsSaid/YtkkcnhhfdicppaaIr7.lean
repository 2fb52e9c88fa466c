import Derived.Test.YtkkcnhhfdicppaaIq7
namespace Lay
/-- What shows that numbers are no proof, at one cell. -/
def rbS (W H M tx ty : Int) (K : Int → Int → Bool) (f : Nat → Int) (i : Nat) : Bool :=
  decide ((((i % W.toNat : Nat) : Int) = tx ∧ ((i / W.toNat : Nat) : Int) = ty) ∧ 0 < f i) || anyN (badS W H M K f i) 4
theorem anyN_true {p : Nat → Bool} : ∀ {n : Nat}, anyN p n = true → ∃ k, k < n ∧ p k = true := by
  intro n
  induction n with
  | zero => intro h; cases h
  | succ n ih =>
    intro h
    simp only [anyN, Bool.or_eq_true] at h
    rcases h with h | h
    · obtain ⟨k, hk, hp⟩ := ih h
      exact ⟨k, by omega, hp⟩
    · exact ⟨n, by omega, h⟩
/-- Looked for cell by cell it is the same. -/
theorem pr_eq {W H M tx ty : Int} {K : Int → Int → Bool} {f : Nat → Int} {N : Nat} (hN : (N : Int) = W * H) (hW : 1 ≤ W) (hx : 0 ≤ tx ∧ tx < W) (hy : 0 ≤ ty ∧ ty < H) : prS W H M tx ty K f N = !anyN (rbS W H M tx ty K f) N := by
  obtain ⟨Wn, rfl⟩ : ∃ k : Nat, W = k := ⟨W.toNat, by omega⟩
  obtain ⟨i0, i1⟩ := idx_lt hN hx hy
  obtain ⟨it, hit⟩ : ∃ k : Nat, ty * (Wn : Int) + tx = k := ⟨(ty * (Wn : Int) + tx).toNat, by omega⟩
  obtain ⟨xn, rfl⟩ : ∃ k : Nat, tx = k := ⟨tx.toNat, by omega⟩
  obtain ⟨yn, rfl⟩ : ∃ k : Nat, ty = k := ⟨ty.toNat, by omega⟩
  have hnat : it = yn * Wn + xn := by
    have : ((yn * Wn + xn : Nat) : Int) = (yn : Int) * Wn + xn := by push_cast; rfl
    omega
  have hm : it % Wn = xn := by rw [hnat, Nat.mul_comm, Nat.mul_add_mod, Nat.mod_eq_of_lt (by omega)]
  have hd : it / Wn = yn := by rw [hnat, Nat.mul_comm, Nat.mul_add_div (by omega), Nat.div_eq_of_lt (by omega)]; omega
  unfold prS
  rw [hit]
  simp only [Int.toNat_natCast]
  have hu : ∀ i, i % Wn = xn → i / Wn = yn → i = it := fun i h1 h2 => by
    have := Nat.div_add_mod i Wn
    have h3 := Nat.div_add_mod it Wn
    rw [h1, h2] at this
    rw [hm, hd] at h3
    omega
  rw [← Bool.not_or]
  congr 1
  by_cases h : anyN (rbS (Wn : Int) H M xn yn K f) N = true
  · rw [h]
    obtain ⟨k, hk, hp⟩ := anyN_true h
    unfold rbS at hp
    simp only [Bool.or_eq_true, decide_eq_true_eq, Int.toNat_natCast] at hp
    rcases hp with ⟨⟨h1, h2⟩, h3⟩ | h1
    · have := hu k (by exact_mod_cast h1) (by exact_mod_cast h2)
      subst this
      simp [h3]
    · rw [anyN_stop (p := fun i => anyN (badS (Wn : Int) H M K f i) 4) (k := k) h1 N hk]; simp
  · have h' : anyN (rbS (Wn : Int) H M xn yn K f) N = false := by simpa using h
    rw [h']
    have h1 := anyN_get h' it (by omega)
    unfold rbS at h1
    simp only [Bool.or_eq_false_iff, decide_eq_false_iff_not, Int.toNat_natCast, hm, hd] at h1
    rw [decide_eq_false (by have h9 := h1.1; simp at h9 ⊢; omega), Bool.false_or]
    cases hb : anyN (fun i => anyN (badS (Wn : Int) H M K f i) 4) N with
    | false => rfl
    | true =>
      obtain ⟨k, hk, hp⟩ := anyN_true hb
      have h2 := anyN_get h' k hk
      unfold rbS at h2
      simp only [Bool.or_eq_false_iff] at h2
      rw [h2.2] at hp
      cases hp
end Lay
namespace Go.Proofs.Ytkkcnhhfdicppaa
open Go.RowKit Lay
set_option maxRecDepth 100000 in
theorem rNext_any (x y d : Int) (w : World) (h0 : -1000 ≤ x) (h1 : x < 1000) (h2 : -1000 ≤ y) (h3 : y < 1000) (h4 : 0 ≤ d) (h5 : d < 1000) :
    Calls Try.prog 51 #[.agg #[.int .i64 x, .int .i64 y], .int .i64 d] w fun e w' => e = .returned (.agg #[.int .i64 (nx x (d % 4)), .int .i64 (ny y (d % 4))]) ∧ Below w.heap.size w w' := by
  obtain ⟨q, hq⟩ : ∃ q, d % 4 = q := ⟨_, rfl⟩
  rw [hq]
  by_cases k0 : q = 0
  · subst k0
    have b0 : (d % 4 == 0) = true := by rw [hq]; rfl
    have b00 := Lib.hid hq
    go_enter Try.func51, Try.ntmps51
    go_wp2_with fail
    refine bodyPost_ret (v := .agg #[.int .i64 (x + 1), .int .i64 y]) (by simp [results, Try.results51, go_sem]) rfl ⟨by simp [nx, ny], by go_grown⟩
  by_cases k1 : q = 1
  · subst k1
    go_enter Try.func51, Try.ntmps51
    go_wp2_with fail
    refine bodyPost_ret (v := .agg #[.int .i64 x, .int .i64 (y + 1)]) (by simp [results, Try.results51, go_sem]) rfl ⟨by simp [nx, ny], by go_grown⟩
  by_cases k2 : q = 2
  · subst k2
    go_enter Try.func51, Try.ntmps51
    go_wp2_with fail
    refine bodyPost_ret (v := .agg #[.int .i64 (x - 1), .int .i64 y]) (by simp [results, Try.results51, go_sem]) rfl ⟨by simp [nx, ny], by go_grown⟩
  have k3 : q = 3 := by omega
  subst k3
  go_enter Try.func51, Try.ntmps51
  go_wp2_with fail
  refine bodyPost_ret (v := .agg #[.int .i64 x, .int .i64 (y - 1)]) (by simp [results, Try.results51, go_sem]) rfl ⟨by simp [nx, ny], by go_grown⟩

set_option maxRecDepth 100000 in
set_option maxHeartbeats 4000000 in
theorem rIsProof_grid (W H M B tx ty : Int) (n cp nf cf : Nat) (ao af : Option Addr) (X Y _f : Nat → Int) (w : World) (hn : n ≤ 9223372036854775807) (hc : XYs w ao n X Y) (hv : vaG W H M B n X Y = false) :
    Calls Try.prog 18 #[.agg #[.int .i64 W, .int .i64 H, .int .i64 M, .int .i64 B, .slice ao n cp], .agg #[.int .i64 tx, .int .i64 ty], .slice af nf cf] w fun e w' => e = .returned (.tuple #[.bool false, .int .i64 70]) ∧ Below w.heap.size w w' := by
  have HC := Lib.hid hc
  have HV := Lib.hid hv
  clear hc hv
  go_enter Try.func18, Try.ntmps18
  go_wp2_with fail
  refine (rValid_any W H M B n cp ao X Y _ hn (HC.out.keep (by go_grown))).mono ?_
  rw [HV.out]
  rintro e w1 ⟨rfl, hb⟩
  have HB1 : Hid (Below w.heap.size w w1) := Lib.hid (Below.trans (by go_grown) (hb.mono (by simp; omega)))
  clear hb
  go_wp2_with fail
  refine bodyPost_ret (v := .tuple #[.bool false, .int .i64 70]) (by simp [results, Try.results18, go_sem]) rfl ⟨rfl, HB1.out⟩

set_option maxRecDepth 100000 in
set_option maxHeartbeats 4000000 in
theorem rIsProof_block (W H M B tx ty : Int) (n cp nf cf : Nat) (ao af : Option Addr) (X Y _f : Nat → Int) (w : World) (hc : XYs w ao n X Y) (hv : vaG W H M B n X Y = true) (hot : opB W H (blkN X Y n) tx ty = false) :
    Calls Try.prog 18 #[.agg #[.int .i64 W, .int .i64 H, .int .i64 M, .int .i64 B, .slice ao n cp], .agg #[.int .i64 tx, .int .i64 ty], .slice af nf cf] w fun e w' => e = .returned (.tuple #[.bool false, .int .i64 72]) ∧ Below w.heap.size w w' := by
  have HC := Lib.hid hc
  have HV := Lib.hid hv
  have HOT := Lib.hid hot
  obtain ⟨hnum, _⟩ := vaG_num hv
  have hn63 : n ≤ 9223372036854775807 := by omega
  clear hc hv hot
  go_enter Try.func18, Try.ntmps18
  go_wp2_with fail
  refine (rValid_any W H M B n cp ao X Y _ hn63 (HC.out.keep (by go_grown))).mono ?_
  rw [HV.out]
  rintro e w1 ⟨rfl, hb⟩
  obtain ⟨b3, hb3⟩ : ∃ b, b = w.heap.size := ⟨_, rfl⟩
  obtain ⟨bt, hbt⟩ : ∃ b, b = w.heap.size + 1 := ⟨_, rfl⟩
  have hz1 : bt < w1.heap.size := by have h9 := hb.size; simp at h9; omega
  have KG1 : Hid (G5 w1 b3 W H M B ao n cp) := Lib.hid ((hb.block _ (by simp; omega)).trans ((Below.heap_alloc _ _ _ (by simp; omega)).trans (by rw [hb3]; exact heap_alloc_new w _)))
  have KT1 : Hid (w1.heap[bt]? = some (.cells #[.int .i64 tx, .int .i64 ty] 26 (0, 0))) := Lib.hid ((hb.block _ (by simp; omega)).trans (by rw [hbt]; have h := heap_alloc_new (w.alloc (.cells #[.int .i64 W, .int .i64 H, .int .i64 M, .int .i64 B, .slice ao n cp] 24)) (.cells #[.int .i64 tx, .int .i64 ty] 26); rwa [World.size_alloc] at h))
  have HB1 : Hid (Below w.heap.size w w1) := Lib.hid (Below.trans (by go_grown) (hb.mono (by simp; omega)))
  have h3t : b3 < bt := by omega
  have hw3 : w.heap.size ≤ b3 := by omega
  clear hb
  obtain ⟨g0, g1, g2, g3, g4⟩ := G5.c KG1.out
  obtain ⟨t0, t1⟩ : w1.cell? ⟨bt, 0, none⟩ = some (.int .i64 tx) ∧ w1.cell? ⟨bt, 1, none⟩ = some (.int .i64 ty) := ⟨cell_of_blk KT1.out rfl, cell_of_blk KT1.out rfl⟩
  have HB3 := Lib.hid hb3
  have HBT := Lib.hid hbt
  clear hb3 hbt
  go_upto_region 3 with fail
  rw [← HBT.out, ← HB3.out]
  clear HB3 HBT
  go_wp2_with fail
  refine (rOpen_any W H M B tx ty n cp ao X Y _ hn63 (HC.out.keep HB1.out)).mono ?_
  rw [HOT.out]
  rintro e w2 ⟨rfl, hb⟩
  have hz2 : bt < w2.heap.size := by have := hb.size; omega
  have KG2 : Hid (G5 w2 b3 W H M B ao n cp) := Lib.hid ((hb.block _ (by omega)).trans KG1.out)
  have KT2 : Hid (w2.heap[bt]? = some (.cells #[.int .i64 tx, .int .i64 ty] 26 (0, 0))) := Lib.hid ((hb.block _ (by omega)).trans KT1.out)
  have HB2 : Hid (Below w.heap.size w w2) := Lib.hid (HB1.out.trans (hb.mono (by omega)))
  clear hb KG1 KT1 HB1 g0 g1 g2 g3 g4 t0 t1
  go_wp2_with fail
  refine bodyPost_ret (v := .tuple #[.bool false, .int .i64 72]) (by simp [results, Try.results18, go_sem]) rfl ⟨rfl, HB2.out⟩
set_option maxRecDepth 100000 in
set_option maxHeartbeats 16000000 in
theorem rIsProof_ok (W H M B tx ty : Int) (N : Nat) (n cp nf cf : Nat) (ao af : Option Addr) (X Y f : Nat → Int) (w : World) (hnf : nf ≤ 9223372036854775807) (hc : XYs w ao n X Y) (hfar : Ints w af nf f) (hv : vaG W H M B n X Y = true) (hot : opB W H (blkN X Y n) tx ty = true) (hN : (N : Int) = W * H) :
    Calls Try.prog 18 #[.agg #[.int .i64 W, .int .i64 H, .int .i64 M, .int .i64 B, .slice ao n cp], .agg #[.int .i64 tx, .int .i64 ty], .slice af nf cf] w fun e w' => e = .returned (.tuple #[.bool (anS nf (W * H) f && prS W H M tx ty (blkN X Y n) f N), .int .i64 (erS (anS nf (W * H) f))]) ∧ Below w.heap.size w w' := by
  have HFAR := Lib.hid hfar
  clear hfar
  have hont := (opB_iff.1 hot).1
  have HC := Lib.hid hc
  have HV := Lib.hid hv
  have HOT := Lib.hid hot
  obtain ⟨hnum, _⟩ := vaG_num hv
  have hn63 : n ≤ 9223372036854775807 := by omega
  clear hc hv hot
  go_enter Try.func18, Try.ntmps18
  go_wp2_with fail
  refine (rValid_any W H M B n cp ao X Y _ hn63 (HC.out.keep (by go_grown))).mono ?_
  rw [HV.out]
  rintro e w1 ⟨rfl, hb⟩
  obtain ⟨b3, hb3⟩ : ∃ b, b = w.heap.size := ⟨_, rfl⟩
  obtain ⟨bt, hbt⟩ : ∃ b, b = w.heap.size + 1 := ⟨_, rfl⟩
  have hz1 : bt < w1.heap.size := by have h9 := hb.size; simp at h9; omega
  have KG1 : Hid (G5 w1 b3 W H M B ao n cp) := Lib.hid ((hb.block _ (by simp; omega)).trans ((Below.heap_alloc _ _ _ (by simp; omega)).trans (by rw [hb3]; exact heap_alloc_new w _)))
  have KT1 : Hid (w1.heap[bt]? = some (.cells #[.int .i64 tx, .int .i64 ty] 26 (0, 0))) := Lib.hid ((hb.block _ (by simp; omega)).trans (by rw [hbt]; have h := heap_alloc_new (w.alloc (.cells #[.int .i64 W, .int .i64 H, .int .i64 M, .int .i64 B, .slice ao n cp] 24)) (.cells #[.int .i64 tx, .int .i64 ty] 26); rwa [World.size_alloc] at h))
  have HB1 : Hid (Below w.heap.size w w1) := Lib.hid (Below.trans (by go_grown) (hb.mono (by simp; omega)))
  have h3t : b3 < bt := by omega
  have hw3 : w.heap.size ≤ b3 := by omega
  clear hb
  obtain ⟨g0, g1, g2, g3, g4⟩ := G5.c KG1.out
  obtain ⟨t0, t1⟩ : w1.cell? ⟨bt, 0, none⟩ = some (.int .i64 tx) ∧ w1.cell? ⟨bt, 1, none⟩ = some (.int .i64 ty) := ⟨cell_of_blk KT1.out rfl, cell_of_blk KT1.out rfl⟩
  have HB3 := Lib.hid hb3
  have HBT := Lib.hid hbt
  clear hb3 hbt
  go_upto_region 3 with fail
  rw [← HBT.out, ← HB3.out]
  clear HB3 HBT
  go_wp2_with fail
  refine (rOpen_any W H M B tx ty n cp ao X Y _ hn63 (HC.out.keep HB1.out)).mono ?_
  rw [HOT.out]
  rintro e w2 ⟨rfl, hb⟩
  have hz2 : bt < w2.heap.size := by have := hb.size; omega
  have KG2 : Hid (G5 w2 b3 W H M B ao n cp) := Lib.hid ((hb.block _ (by omega)).trans KG1.out)
  have KT2 : Hid (w2.heap[bt]? = some (.cells #[.int .i64 tx, .int .i64 ty] 26 (0, 0))) := Lib.hid ((hb.block _ (by omega)).trans KT1.out)
  have HB2 : Hid (Below w.heap.size w w2) := Lib.hid (HB1.out.trans (hb.mono (by omega)))
  clear hb KG1 KT1 HB1 g0 g1 g2 g3 g4 t0 t1
  have HPR := Lib.hid (pr_eq (M := M) (K := blkN X Y n) (f := f) hN (by omega) ⟨hont.1, hont.2.1⟩ ⟨hont.2.2.1, hont.2.2.2⟩)
  obtain ⟨hwh1, hwh2⟩ := wh_le (W := W) (H := H) (by omega) (by omega) (by omega) (by omega)
  obtain ⟨g0, g1, g2, g3, g4⟩ := G5.c KG2.out
  by_cases hlen : (nf : Int) = W * H
  case neg =>
    have hb1 : ((nf : Int) != W * H) = true := bne_iff_ne.2 hlen
    have HAN : Hid (anS nf (W * H) f = false) := Lib.hid (by unfold anS; rw [decide_eq_false hlen]; rfl)
    clear hlen
    go_wp2_with fail
    refine bodyPost_ret (v := .tuple #[.bool false, .int .i64 2]) (by simp [results, Try.results18, go_sem]) rfl ⟨by rw [HAN.out]; rfl, HB2.out⟩
  have hb1 : ((nf : Int) != W * H) = false := by rw [hlen]; simp
  have HNF : Hid (nf = N) := Lib.hid (by omega)
  have HLEN := Lib.hid hlen
  have HN := Lib.hid hN
  clear hlen hN
  go_wp2_with fail
  clear g0 g1 g2 g3 g4 hb1
  go_loopg [32] nf (fun gg v32 wr => ∃ k : Nat, v32 = .int .i64 k ∧ k ≤ nf ∧ Hid (nf - k ≤ gg) ∧ Hid (anyN (fun i => decide (f i < -1000000000 ∨ 1000000000 < f i)) k = false) ∧ Hid (G5 wr b3 W H M B ao n cp) ∧ Hid (wr.heap[bt]? = some (.cells #[.int .i64 tx, .int .i64 ty] 26 (0, 0))) ∧ Hid (Below w.heap.size w wr) ∧ bt < wr.heap.size)
  case atStart => exact ⟨0, rfl, by omega, Lib.hid (by omega), Lib.hid rfl, KG2, KT2, HB2, hz2⟩
  case round =>
    obtain ⟨k, rfl, hk, HG, HA, KG, KT, HB, hz⟩ := hrel
    clear KG2 KT2 HB2 hz2
    by_cases hlt : k < nf
    case pos =>
      obtain ⟨b, o, rfl, hcell⟩ := (HFAR.out.keep HB.out) (by omega)
      have c0 := hcell k hlt
      obtain ⟨v, hvv⟩ : ∃ z, f k = z := ⟨_, rfl⟩
      rw [hvv] at c0
      have HVV := Lib.hid hvv
      clear hcell hvv
      have HGG : Hid (nf - k ≤ gk) := Lib.hid HG.out
      by_cases h1 : v < -1000000000
      · have HAN : Hid (anS nf (W * H) f = false) := Lib.hid (by unfold anS; rw [anyN_stop (k := k) (by rw [HVV.out]; exact decide_eq_true (Or.inl h1)) nf hlt]; simp)
        go_wp2_with fail
        refine bodyPost_ret (v := .tuple #[.bool false, .int .i64 2]) (by simp [results, Try.results18, go_sem]) rfl ⟨by rw [HAN.out]; rfl, HB.out⟩
      by_cases h2 : 1000000000 < v
      · have HAN : Hid (anS nf (W * H) f = false) := Lib.hid (by unfold anS; rw [anyN_stop (k := k) (by rw [HVV.out]; exact decide_eq_true (Or.inr h2)) nf hlt]; simp)
        go_wp2_with fail
        refine bodyPost_ret (v := .tuple #[.bool false, .int .i64 2]) (by simp [results, Try.results18, go_sem]) rfl ⟨by rw [HAN.out]; rfl, HB.out⟩
      have HV' : Hid (anyN (fun i => decide (f i < -1000000000 ∨ 1000000000 < f i)) (k + 1) = false) := Lib.hid (by show (anyN _ k || decide _) = false; rw [HA.out, HVV.out, decide_eq_false (by omega)]; rfl)
      go_wp2_with fail
      go_roundg (nf - (k + 1))
      case measure => have := HGG.out; omega
      case rel => exact ⟨k + 1, by go_num, by omega, Lib.hid (Nat.le_refl _), HV', KG, KT, HB, hz⟩
    have HA' : Hid (anyN (fun i => decide (f i < -1000000000 ∨ 1000000000 < f i)) nf = false) := by
      have e : k = nf := by omega
      rw [← e]; exact HA
    have HAN : Hid (anS nf (W * H) f = true) := Lib.hid (by unfold anS; rw [HA'.out, decide_eq_true HLEN.out]; rfl)
    have HABS : Hid (∀ i, i < N → -1000000000 ≤ f i ∧ f i ≤ 1000000000) := Lib.hid (fun i hi => by
      have h := anyN_get HA'.out i (by rw [HNF.out]; exact hi)
      simp only [decide_eq_false_iff_not] at h
      omega)
    clear HG HA HA'
    obtain ⟨Wn, hWn⟩ : ∃ k : Nat, W = k := ⟨W.toNat, by omega⟩
    have HWN := Lib.hid hWn
    have hWn1 : 1 ≤ Wn := by omega
    clear hWn
    go_wp2_with fail
    go_loopg [45] nf (fun gg v45 wr => ∃ k : Nat, v45 = .int .i64 k ∧ k ≤ nf ∧ Hid (nf - k ≤ gg) ∧ Hid (anyN (rbS W H M tx ty (blkN X Y n) f) k = false) ∧ Hid (G5 wr b3 W H M B ao n cp) ∧ Hid (wr.heap[bt]? = some (.cells #[.int .i64 tx, .int .i64 ty] 26 (0, 0))) ∧ Hid (Below w.heap.size w wr) ∧ bt < wr.heap.size)
    case atStart => exact ⟨0, rfl, by omega, Lib.hid (by omega), Lib.hid rfl, KG, KT, HB, hz⟩
    case round =>
      obtain ⟨i, rfl, hi, HG, HA, KG1, KT1, HB1, hz1⟩ := hrel
      clear KG KT HB hz
      by_cases hlt2 : i < nf
      case neg =>
        have HR : Hid (prS W H M tx ty (blkN X Y n) f N = true) := Lib.hid (by
          have e : i = N := by have := HNF.out; omega
          rw [HPR.out, ← e, HA.out]; rfl)
        go_wp2_with fail
        refine bodyPost_ret (v := .tuple #[.bool true, .int .i64 0]) (by simp [results, Try.results18, go_sem]) rfl ⟨by rw [HAN.out, Bool.true_and, HR.out]; rfl, HB1.out⟩
      have HGG : Hid (nf - i ≤ gk) := Lib.hid HG.out
      obtain ⟨bfa, ofa, rfl, hfc⟩ := (HFAR.out.keep HB1.out) (by omega)
      have ci := hfc i hlt2
      obtain ⟨vi, hvi⟩ : ∃ z, f i = z := ⟨_, rfl⟩
      rw [hvi] at ci
      have HVI := Lib.hid hvi
      have hiN : i < N := by have := HNF.out; omega
      obtain ⟨x, hx⟩ : ∃ z : Int, ((i % Wn : Nat) : Int) = z := ⟨_, rfl⟩
      obtain ⟨y, hy⟩ : ∃ z : Int, ((i / Wn : Nat) : Int) = z := ⟨_, rfl⟩
      have HXY : Hid (((i % W.toNat : Nat) : Int) = x ∧ ((i / W.toNat : Nat) : Int) = y ∧ (i : Int) % W = x ∧ (i : Int) / W = y) := Lib.hid (by
        rw [HWN.out]
        exact ⟨hx, hy, by rw [← hx]; push_cast; rfl, by rw [← hy]; push_cast; rfl⟩)
      have hxb : 0 ≤ x ∧ x < 30 := by
        have h1 := Nat.mod_lt i (show 0 < Wn by omega)
        have h2 := HWN.out
        generalize i % Wn = q at h1 hx
        omega
      have hyb : 0 ≤ y ∧ y < 30 := by
        have hNH : N = H.toNat * Wn := by
          have h1 : ((H.toNat * Wn : Nat) : Int) = (Wn : Int) * H := by push_cast; rw [Int.toNat_of_nonneg (by omega)]; exact Int.mul_comm _ _
          have h2 := HN.out
          rw [HWN.out] at h2
          omega
        have h1 : i / Wn < H.toNat := Nat.div_lt_of_lt_mul (by rw [Nat.mul_comm, ← hNH]; exact hiN)
        generalize i / Wn = q at h1 hy
        omega
      clear hfc hvi hx hy HG
      obtain ⟨g0, g1, g2, g3, g4⟩ := G5.c KG1.out
      go_upto_region 16 with fail
      have G0 : Hid (∀ w' : World, Below wr.heap.size wr w' → w'.cell? ⟨b3, 0, none⟩ = some (.int .i64 W)) := Lib.hid (fun w' hb => cell_of_blk ((hb.block _ (by omega)).trans KG1.out) rfl)
      have HE0 : Below wr.heap.size wr wr.drew := (Below.refl _ _).drew
      have hW0 : ¬ W = 0 := by omega
      have m1 : ((i : Int)).tmod W = x := by rw [Int.tmod_eq_emod_of_nonneg (Int.natCast_nonneg _)]; exact HXY.out.2.2.1
      have m2 : IntKind.i64.wrap ((i : Int) / W) = y := by rw [HXY.out.2.2.2, IntKind.wrap_i64]; omega
      refine wp_region_held_drew (S := fun w' => w'.cell? ⟨b3, 0, none⟩ = some (.int .i64 W)) (by kernel_rfl) (G0.out _ HE0) (fun hHeld => ?_)
      refine wpAnyH_take (i := 0) (oi := _) (v := ?_) rfl (by kernel_rfl) (by kernel_rfl) (by kernel_rfl) (fun _ _ _ h => h) (Or.inl ⟨by rfl, ?_⟩) (by assumption) ?_
      rotate_left
      · intro w hSw; go_simp; (try with_reducible rfl)
      try change wpAnyH _ _ _ _ _ _ _ (Act.put _ (some 50) _) _
      try simp only [act_all]
      refine wpAnyH_take (i := 1) (oi := _) (v := ?_) rfl (by kernel_rfl) (by kernel_rfl) (by kernel_rfl) (fun _ _ _ h => h) (Or.inl ⟨by rfl, ?_⟩) (by assumption) ?_
      rotate_left
      · intro w hSw; go_simp; (try with_reducible rfl)
      try change wpAnyH _ _ _ _ _ _ _ (Act.put _ (some 51) _) _
      try simp only [act_all]
      refine wpAnyH_take (i := 2) (oi := _) (v := ?_) rfl (by kernel_rfl) (by kernel_rfl) (by kernel_rfl) (fun _ _ _ h => h) (Or.inl ⟨by rfl, ?_⟩) (by assumption) ?_
      rotate_left
      · intro w hSw; go_simp; (try with_reducible rfl)
      try change wpAnyH _ _ _ _ _ _ _ (Act.put _ (some 52) _) _
      try simp only [act_all]
      refine wpAnyH_take (i := 3) (oi := _) (v := ?_) rfl (by kernel_rfl) (by kernel_rfl) (by kernel_rfl) (fun _ _ _ h => h) (Or.inl ⟨by rfl, ?_⟩) (by assumption) ?_
      rotate_left
      · intro w hSw; go_simp; (try with_reducible rfl)
      try change wpAnyH _ _ _ _ _ _ _ (Act.put _ (some 53) _) _
      try simp only [act_all]
      refine wpAnyH_take (i := 4) (oi := _) (v := ?_) rfl (by kernel_rfl) (by kernel_rfl) (by kernel_rfl) (fun _ _ _ h => h) (Or.inl ⟨by rfl, ?_⟩) (by assumption) ?_
      rotate_left
      · intro w hSw; go_simp; (try with_reducible rfl)
      try change wpAnyH _ _ _ _ _ _ _ (Act.put _ (some 54) _) _
      try simp only [act_all]
      refine wpAnyH_take (i := 5) (oi := _) (v := ?_) rfl (by kernel_rfl) (by kernel_rfl) (by kernel_rfl) (fun _ _ _ h => h) (Or.inl ⟨by rfl, ?_⟩) (by assumption) ?_
      rotate_left
      · intro w hSw; go_simp; (try with_reducible rfl)
      try change wpAnyH _ _ _ _ _ _ _ (Act.put _ (some 55) _) _
      try simp only [act_all]
      refine wpAnyH_take (i := 6) (oi := _) (v := ?_) rfl (by kernel_rfl) (by kernel_rfl) (by kernel_rfl) (fun _ _ _ h => h) (Or.inl ⟨by rfl, ?_⟩) (by assumption) ?_
      rotate_left
      · intro w hSw; go_simp; (try with_reducible rfl)
      try change wpAnyH _ _ _ _ _ _ _ (Act.put _ (some 56) _) _
      try simp only [act_all]
      refine wpAnyH_take (i := 7) (oi := _) (v := ?_) rfl (by kernel_rfl) (by kernel_rfl) (by kernel_rfl) (fun _ _ _ h => h) (Or.inl ⟨by rfl, ?_⟩) (by assumption) ?_
      rotate_left
      · intro w hSw; go_simp; (try with_reducible rfl)
      try change wpAnyH _ _ _ _ _ _ _ (Act.put _ (some 57) _) _
      try simp only [act_all]
      refine wpAnyH_take (i := 8) (oi := _) (v := ?_) rfl (by kernel_rfl) (by kernel_rfl) (by kernel_rfl) (fun _ _ _ h => h) (Or.inl ⟨by rfl, ?_⟩) (by assumption) ?_
      rotate_left
      · intro w hSw; go_simp; (try with_reducible rfl)
      try change wpAnyH _ _ _ _ _ _ _ (Act.put _ (some 58) _) _
      try simp only [act_all]
      refine wpAnyH_ready (rs := [9]) (by kernel_rfl) (by simp) ?_
      refine AllReadyH.cons (o := _) rfl (fun K hK => ?_) AllReadyH.nil
      have HE1 : Below wr.heap.size wr (wr.alloc (Obj.cells #[.int .i64 0, .int .i64 0] 26)).drew := (bal (Below.refl _ _) _).drew
      go_simp
      refine hK.out _ _ (G0.out _ HE1) (fun hHeld => ?_)
      clear hK K
      try simp only [act_all]
      refine wpAnyH_ready (rs := [10]) (by kernel_rfl) (by simp) ?_
      refine AllReadyH.cons (o := _) rfl (fun K hK => ?_) AllReadyH.nil
      have kx : (wr.alloc (Obj.cells #[.int .i64 0, .int .i64 0] 26)).drew.heap[wr.heap.size]? = some (.cells #[.int .i64 0, .int .i64 0] 26 (0, 0)) := (heap_alloc_new wr _)
      have HTH := Lib.hid (there_mid kx 0 2 (show 0 + 2 ≤ 2 by decide))
      have HE2 : Below wr.heap.size wr ((wr.alloc (Obj.cells #[.int .i64 0, .int .i64 0] 26)).drew.setCells wr.heap.size 0 [.int .i64 x, .int .i64 y]) := below_mids (Nat.le_refl _) _ _ HE1
      have kz : ((wr.alloc (Obj.cells #[.int .i64 0, .int .i64 0] 26)).drew.setCells wr.heap.size 0 [.int .i64 x, .int .i64 y]).heap[wr.heap.size]? = some (.cells #[.int .i64 x, .int .i64 y] 26 (0, 0)) := block_whole [.int .i64 x, .int .i64 y] kx rfl
      rw [if_pos (show Region.wanted _ _ = true from rfl)]
      refine wp_store_mid 26 (.tmp 12) (.tmp 58) rfl wr.heap.size 0 #[.int .i64 x, .int .i64 y] rfl rfl HTH.out (by kernel_rfl) (by simp [Value.oneCell']) ?_
      (try rw [show (#[.int .i64 x, .int .i64 y] : Array Value).toList = [.int .i64 x, .int .i64 y] from rfl])
      refine hK.out _ _ (G0.out _ HE2) (fun hHeld => ?_)
      clear hK K
      try simp only [act_all]
      refine wpAnyH_done (by kernel_rfl) ?_ _
      clear hHeld
      obtain ⟨b12, hb12⟩ : ∃ z, z = wr.heap.size := ⟨_, rfl⟩
      have K12 : Hid (((wr.alloc (Obj.cells #[.int .i64 0, .int .i64 0] 26)).drew.setCells wr.heap.size 0 [.int .i64 x, .int .i64 y]).heap[b12]? = some (.cells #[.int .i64 x, .int .i64 y] 26 (0, 0))) := Lib.hid (by rw [hb12]; exact kz)
      have hz12 : b12 < ((wr.alloc (Obj.cells #[.int .i64 0, .int .i64 0] 26)).drew.setCells wr.heap.size 0 [.int .i64 x, .int .i64 y]).heap.size := (Array.getElem?_eq_some_iff.1 K12.out).1
      have KG2 : Hid (G5 ((wr.alloc (Obj.cells #[.int .i64 0, .int .i64 0] 26)).drew.setCells wr.heap.size 0 [.int .i64 x, .int .i64 y]) b3 W H M B ao n cp) := Lib.hid ((HE2.block _ (by omega)).trans KG1.out)
      have KT2 : Hid (((wr.alloc (Obj.cells #[.int .i64 0, .int .i64 0] 26)).drew.setCells wr.heap.size 0 [.int .i64 x, .int .i64 y]).heap[bt]? = some (.cells #[.int .i64 tx, .int .i64 ty] 26 (0, 0))) := Lib.hid ((HE2.block _ (by omega)).trans KT1.out)
      have HB2 : Hid (Below w.heap.size w ((wr.alloc (Obj.cells #[.int .i64 0, .int .i64 0] 26)).drew.setCells wr.heap.size 0 [.int .i64 x, .int .i64 y])) := Lib.hid (HB1.out.trans (HE2.mono (by omega)))
      have ht12 : bt < b12 := by omega
      generalize ((wr.alloc (Obj.cells #[.int .i64 0, .int .i64 0] 26)).drew.setCells wr.heap.size 0 [.int .i64 x, .int .i64 y]) = wq at *
      rw [← hb12]
      clear hb12 kz kx HTH HE0 HE1 HE2 G0 KG1 KT1 HB1 g0 g1 g2 g3 g4 ci hz1 m1 m2 hW0
      obtain ⟨x0, x1⟩ : wq.cell? ⟨b12, 0, none⟩ = some (.int .i64 x) ∧ wq.cell? ⟨b12, 1, none⟩ = some (.int .i64 y) := ⟨cell_of_blk K12.out rfl, cell_of_blk K12.out rfl⟩
      obtain ⟨t0, t1⟩ : wq.cell? ⟨bt, 0, none⟩ = some (.int .i64 tx) ∧ wq.cell? ⟨bt, 1, none⟩ = some (.int .i64 ty) := ⟨cell_of_blk KT2.out rfl, cell_of_blk KT2.out rfl⟩
      have HRB : Hid (rbS W H M tx ty (blkN X Y n) f i = (decide ((x = tx ∧ y = ty) ∧ 0 < vi) || anyN (badS W H M (blkN X Y n) f i) 4)) := Lib.hid (by unfold rbS; rw [HXY.out.1, HXY.out.2.1, HVI.out])
      go_upto_region 17 with fail
      change Code.wp _ _ _ (Act.put _ none _) _
      simp only [act_all]
      go_cut [65] (fun v65 wx => (v65 = .bool true ∧ (x = tx ∧ y = ty) ∧ 0 < vi ∨ v65 = .bool false ∧ ¬ ((x = tx ∧ y = ty) ∧ 0 < vi)) ∧ wx = wq)
      case first =>
        by_cases he : x = tx ∧ y = ty
        · have hne : ∀ w, (binOp .eql 26 (.agg #[.int .i64 x, .int .i64 y]) (.agg #[.int .i64 tx, .int .i64 ty])).run Try.prog w = .ok (.bool true) w := fun w => by
            have h := eqXY x y tx ty w
            rw [show (x == tx && y == ty) = true by simp [he.1, he.2]] at h
            exact h
          have HEE := Lib.hid he
          clear he
          by_cases h0 : 0 < vi
          · go_wp2_with fail
            go_meet
            exact ⟨Or.inl ⟨rfl, HEE.out, h0⟩, rfl⟩
          · have h0' : vi ≤ 0 := by omega
            go_wp2_with fail
            go_meet
            exact ⟨Or.inr ⟨rfl, fun h => by have := h.2; omega⟩, rfl⟩
        · have hne : ∀ w, (binOp .eql 26 (.agg #[.int .i64 x, .int .i64 y]) (.agg #[.int .i64 tx, .int .i64 ty])).run Try.prog w = .ok (.bool false) w := fun w => by
            have h := eqXY x y tx ty w
            rw [show (x == tx && y == ty) = false from Bool.eq_false_iff.2 (fun e => he (by simpa using e))] at h
            exact h
          have HEE := Lib.hid he
          clear he
          go_wp2_with fail
          go_meet
          exact ⟨Or.inr ⟨rfl, fun h => HEE.out h.1⟩, rfl⟩
      case rest =>
      obtain ⟨hcase, rfl⟩ := hcut
      clear x0 x1 t0 t1
      rcases hcase with ⟨rfl, he1, he2⟩ | ⟨rfl, hno⟩
      · have HR : Hid (prS W H M tx ty (blkN X Y n) f N = false) := Lib.hid (by rw [HPR.out, anyN_stop (k := i) (by rw [HRB.out, decide_eq_true ⟨he1, he2⟩]; rfl) N hiN]; rfl)
        clear he1 he2
        go_wp2_with fail
        refine bodyPost_ret (v := .tuple #[.bool false, .int .i64 0]) (by simp [results, Try.results18, go_sem]) rfl ⟨by rw [HAN.out, Bool.true_and, HR.out]; rfl, HB2.out⟩
      have HRB2 : Hid (rbS W H M tx ty (blkN X Y n) f i = anyN (badS W H M (blkN X Y n) f i) 4) := Lib.hid (by rw [HRB.out, decide_eq_false hno]; rfl)
      clear hno HRB
      obtain ⟨wq, hwq⟩ : ∃ z, z = wc := ⟨wc, rfl⟩
      subst hwq
      go_wp2_with fail
      go_loopg [66] 4 (fun gg v66 wr => ∃ d : Nat, v66 = .int .i64 d ∧ d ≤ 4 ∧ Hid (4 - d ≤ gg) ∧ Hid (anyN (badS W H M (blkN X Y n) f i) d = false) ∧ Hid (wr.heap[b12]? = some (.cells #[.int .i64 x, .int .i64 y] 26 (0, 0))) ∧ Hid (G5 wr b3 W H M B ao n cp) ∧ Hid (wr.heap[bt]? = some (.cells #[.int .i64 tx, .int .i64 ty] 26 (0, 0))) ∧ Hid (Below w.heap.size w wr) ∧ b12 < wr.heap.size)
      case atStart => exact ⟨0, rfl, by omega, Lib.hid (by omega), Lib.hid rfl, K12, KG2, KT2, HB2, hz12⟩
      case round =>
        obtain ⟨d, rfl, hd, HGi, HAd, KX, KG, KT, HB, hz⟩ := hrel
        clear K12 KG2 KT2 HB2 hz12
        by_cases hdl : d < 4
        case neg =>
          obtain rfl : d = 4 := by omega
          have HA' : Hid (anyN (rbS W H M tx ty (blkN X Y n) f) (i + 1) = false) := Lib.hid (by show (anyN _ i || rbS W H M tx ty (blkN X Y n) f i) = false; rw [HA.out, HRB2.out, HAd.out]; rfl)
          have hzt : bt < wr.heap.size := by omega
          go_wp2_with fail
          go_roundg (nf - (i + 1))
          case measure => have := HGG.out; omega
          case rel => exact ⟨i + 1, by go_num, by omega, Lib.hid (Nat.le_refl _), HA', KG, KT, HB, hzt⟩
        have HGD : Hid (4 - d ≤ gk) := Lib.hid HGi.out
        clear HGi
        obtain ⟨px, hpx⟩ : ∃ z, nx x (d : Int) = z := ⟨_, rfl⟩
        obtain ⟨py, hpy⟩ : ∃ z, ny y (d : Int) = z := ⟨_, rfl⟩
        have HPX := Lib.hid (And.intro hpx hpy)
        have HBS : Hid (badS W H M (blkN X Y n) f i d = (opB W H (blkN X Y n) x y && (opB W H (blkN X Y n) px py && decide (f (py * W + px).toNat + M < f i)))) := Lib.hid (by unfold badS; rw [HXY.out.1, HXY.out.2.1, hpx, hpy])
        have HD4 : Hid ((d : Int) % 4 = d) := Lib.hid (by omega)
        clear hpx hpy
        obtain ⟨x0, x1⟩ : wr.cell? ⟨b12, 0, none⟩ = some (.int .i64 x) ∧ wr.cell? ⟨b12, 1, none⟩ = some (.int .i64 y) := ⟨cell_of_blk KX.out rfl, cell_of_blk KX.out rfl⟩
        go_wp2_with fail
        refine (rNext_any x y d _ (by omega) (by omega) (by omega) (by omega) (by omega) (by omega)).mono ?_
        rw [HD4.out, HPX.out.1, HPX.out.2]
        rintro e wb ⟨rfl, hb⟩
        obtain ⟨b14, hb14⟩ : ∃ z, z = wb.heap.size := ⟨_, rfl⟩
        obtain ⟨wd, hwd⟩ : ∃ z, z = wb.alloc (.cells #[.int .i64 px, .int .i64 py] 26) := ⟨_, rfl⟩
        have hbd : Below wr.heap.size wr wd := by rw [hwd]; exact hb.alloc hb.size _
        have K14 : Hid (wd.heap[b14]? = some (.cells #[.int .i64 px, .int .i64 py] 26 (0, 0))) := Lib.hid (by rw [hwd, hb14]; exact heap_alloc_new wb _)
        have hz14 : b12 < b14 := by have := hb.size; omega
        have hzd : b14 < wd.heap.size := by rw [hwd, hb14]; simp
        have KX1 : Hid (wd.heap[b12]? = some (.cells #[.int .i64 x, .int .i64 y] 26 (0, 0))) := Lib.hid ((hbd.block _ hz).trans KX.out)
        have KG1 : Hid (G5 wd b3 W H M B ao n cp) := Lib.hid ((hbd.block _ (by omega)).trans KG.out)
        have KT1 : Hid (wd.heap[bt]? = some (.cells #[.int .i64 tx, .int .i64 ty] 26 (0, 0))) := Lib.hid ((hbd.block _ (by omega)).trans KT.out)
        have HB1 : Hid (Below w.heap.size w wd) := Lib.hid (HB.out.trans (hbd.mono (by omega)))
        have HWD := Lib.hid hwd
        have HB14 := Lib.hid hb14
        clear hb hbd KX KG KT HB hwd hb14 x0 x1
        go_upto_region 23 with fail
        rw [← HWD.out, ← HB14.out]
        clear HWD HB14
        by_cases hop1 : opB W H (blkN X Y n) x y = true
        case neg =>
          replace hop1 : opB W H (blkN X Y n) x y = false := by simpa using hop1
          have HAn : Hid (anyN (badS W H M (blkN X Y n) f i) (d + 1) = false) := Lib.hid (by show (anyN _ d || badS W H M (blkN X Y n) f i d) = false; rw [HAd.out, HBS.out, hop1]; rfl)
          have G0 : Hid (∀ w' : World, Below wd.heap.size wd w' → w'.heap[b3]? = some (.cells #[.int .i64 W, .int .i64 H, .int .i64 M, .int .i64 B, .slice ao n cp] 24 (0, 0)) ∧ w'.heap[b12]? = some (.cells #[.int .i64 x, .int .i64 y] 26 (0, 0)) ∧ w'.heap[b14]? = some (.cells #[.int .i64 px, .int .i64 py] 26 (0, 0))) := Lib.hid (fun w' hb => ⟨(hb.block _ (by omega)).trans KG1.out, (hb.block _ (by omega)).trans KX1.out, (hb.block _ hzd).trans K14.out⟩)
          have HQ0 : Below wd.heap.size wd wd.drew := (Below.refl _ _).drew
          refine wp_region_held_drew (S := fun w' => w'.heap[b3]? = some (.cells #[.int .i64 W, .int .i64 H, .int .i64 M, .int .i64 B, .slice ao n cp] 24 (0, 0)) ∧ w'.heap[b12]? = some (.cells #[.int .i64 x, .int .i64 y] 26 (0, 0)) ∧ w'.heap[b14]? = some (.cells #[.int .i64 px, .int .i64 py] 26 (0, 0))) (by kernel_rfl) (G0.out _ HQ0) (fun hHeld => ?_)
          refine wpAnyH_take (i := 0) (oi := _) (v := _) rfl (by kernel_rfl) (by kernel_rfl) (by kernel_rfl) (fun _ _ _ h => h) (yieldsIf_load_mid (by rfl) 24 _ rfl b3 0 rfl ([.int .i64 W, .int .i64 H, .int .i64 M, .int .i64 B, .slice ao n cp]) _ (fun w' hh => range_row hh.1 0 [.int .i64 W, .int .i64 H, .int .i64 M, .int .i64 B, .slice ao n cp] (fun j hj => by simp only [Nat.zero_add, List.getElem?_toArray])) Try.underlying24 rfl (by kernel_rfl)) (by assumption) ?_
          try change wpAnyH _ _ _ _ _ _ _ (Act.put _ (some 72) _) _
          try simp only [act_all]
          refine wpAnyH_take (i := 1) (oi := _) (v := _) rfl (by kernel_rfl) (by kernel_rfl) (by kernel_rfl) (fun _ _ _ h => h) (yieldsIf_load_mid (by rfl) 26 _ rfl b12 0 rfl ([.int .i64 x, .int .i64 y]) _ (fun w' hh => range_row hh.2.1 0 [.int .i64 x, .int .i64 y] (fun j hj => by simp only [Nat.zero_add, List.getElem?_toArray])) Try.underlying26 rfl (by kernel_rfl)) (by assumption) ?_
          try change wpAnyH _ _ _ _ _ _ _ (Act.put _ (some 73) _) _
          try simp only [act_all]
          refine wpAnyH_ready (rs := [2]) (by kernel_rfl) (by simp) ?_
          refine AllReadyH.cons (o := _) rfl (fun K hK => ?_) AllReadyH.nil
          go_simp
          refine (rOpen_any W H M B x y n cp ao X Y _ hn63 (HC.out.keep (HB1.out.trans (HQ0.mono (by omega))))).mono ?_
          rw [hop1]
          rintro e_ t1 ⟨rfl, hb⟩
          have HQ1 : Below wd.heap.size wd t1 := HQ0.trans (hb.mono HQ0.size)
          clear hb hHeld
          refine hK.out _ _ (G0.out _ HQ1) (fun hHeld => ?_)
          clear hK K
          try simp only [act_all]
          refine wpAnyH_take (i := 3) (oi := _) (v := ?_) rfl (by kernel_rfl) (by kernel_rfl) (by kernel_rfl) (fun _ _ _ h => h) (Or.inl ⟨by rfl, ?_⟩) (by assumption) ?_
          rotate_left
          · intro w hSw; obtain ⟨s0, s1, s2⟩ := hSw; go_simp; (try with_reducible rfl)
          try change wpAnyH _ _ _ _ _ _ _ (Act.put _ (some 75) _) _
          try simp only [act_all]
          refine wpAnyH_take (i := 4) (oi := _) (v := _) rfl (by kernel_rfl) (by kernel_rfl) (by kernel_rfl) (fun _ _ _ h => h) (Or.inr ⟨by rfl, rfl⟩) (by assumption) ?_
          try change wpAnyH _ _ _ _ _ _ _ (Act.put _ (some 76) _) _
          try simp only [act_all]
          refine wpAnyH_take (i := 5) (oi := _) (v := _) rfl (by kernel_rfl) (by kernel_rfl) (by kernel_rfl) (fun _ _ _ h => h) (Or.inr ⟨by rfl, rfl⟩) (by assumption) ?_
          try change wpAnyH _ _ _ _ _ _ _ (Act.put _ (some 77) _) _
          try simp only [act_all]
          refine wpAnyH_take (i := 6) (oi := _) (v := _) rfl (by kernel_rfl) (by kernel_rfl) (by kernel_rfl) (fun _ _ _ h => h) (Or.inr ⟨by rfl, rfl⟩) (by assumption) ?_
          try change wpAnyH _ _ _ _ _ _ _ (Act.put _ (some 78) _) _
          try simp only [act_all]
          refine wpAnyH_take (i := 7) (oi := _) (v := ?_) rfl (by kernel_rfl) (by kernel_rfl) (by kernel_rfl) (fun _ _ _ h => h) (Or.inl ⟨by rfl, ?_⟩) (by assumption) ?_
          rotate_left
          · intro w hSw; obtain ⟨s0, s1, s2⟩ := hSw; go_simp; (try with_reducible rfl)
          try change wpAnyH _ _ _ _ _ _ _ (Act.put _ (some 79) _) _
          try simp only [act_all]
          refine wpAnyH_take (i := 8) (oi := _) (v := ?_) rfl (by kernel_rfl) (by kernel_rfl) (by kernel_rfl) (fun _ _ _ h => h) (Or.inl ⟨by rfl, ?_⟩) (by assumption) ?_
          rotate_left
          · intro w hSw; obtain ⟨s0, s1, s2⟩ := hSw; go_simp; (try with_reducible rfl)
          try change wpAnyH _ _ _ _ _ _ _ (Act.put _ (some 80) _) _
          try simp only [act_all]
          refine wpAnyH_take (i := 9) (oi := _) (v := _) rfl (by kernel_rfl) (by kernel_rfl) (by kernel_rfl) (fun _ _ _ h => h) (Or.inr ⟨by rfl, rfl⟩) (by assumption) ?_
          try change wpAnyH _ _ _ _ _ _ _ (Act.put _ (some 81) _) _
          try simp only [act_all]
          refine wpAnyH_take (i := 10) (oi := _) (v := _) rfl (by kernel_rfl) (by kernel_rfl) (by kernel_rfl) (fun _ _ _ h => h) (Or.inr ⟨by rfl, rfl⟩) (by assumption) ?_
          try change wpAnyH _ _ _ _ _ _ _ (Act.put _ (some 82) _) _
          try simp only [act_all]
          refine wpAnyH_take (i := 11) (oi := _) (v := _) rfl (by kernel_rfl) (by kernel_rfl) (by kernel_rfl) (fun _ _ _ h => h) (Or.inr ⟨by rfl, rfl⟩) (by assumption) ?_
          try change wpAnyH _ _ _ _ _ _ _ (Act.put _ (some 83) _) _
          try simp only [act_all]
          refine wpAnyH_take (i := 12) (oi := _) (v := _) rfl (by kernel_rfl) (by kernel_rfl) (by kernel_rfl) (fun _ _ _ h => h) (Or.inr ⟨by rfl, rfl⟩) (by assumption) ?_
          try change wpAnyH _ _ _ _ _ _ _ (Act.put _ (some 84) _) _
          try simp only [act_all]
          refine wpAnyH_take (i := 13) (oi := _) (v := _) rfl (by kernel_rfl) (by kernel_rfl) (by kernel_rfl) (fun _ _ _ h => h) (Or.inr ⟨by rfl, rfl⟩) (by assumption) ?_
          try change wpAnyH _ _ _ _ _ _ _ (Act.put _ (some 85) _) _
          try simp only [act_all]
          refine wpAnyH_take (i := 14) (oi := _) (v := _) rfl (by kernel_rfl) (by kernel_rfl) (by kernel_rfl) (fun _ _ _ h => h) (Or.inr ⟨by rfl, rfl⟩) (by assumption) ?_
          try change wpAnyH _ _ _ _ _ _ _ (Act.put _ (some 86) _) _
          try simp only [act_all]
          refine wpAnyH_take (i := 15) (oi := _) (v := _) rfl (by kernel_rfl) (by kernel_rfl) (by kernel_rfl) (fun _ _ _ h => h) (Or.inr ⟨by rfl, rfl⟩) (by assumption) ?_
          try change wpAnyH _ _ _ _ _ _ _ (Act.put _ (some 87) _) _
          try simp only [act_all]
          refine wpAnyH_take (i := 16) (oi := _) (v := _) rfl (by kernel_rfl) (by kernel_rfl) (by kernel_rfl) (fun _ _ _ h => h) (Or.inr ⟨by rfl, rfl⟩) (by assumption) ?_
          try change wpAnyH _ _ _ _ _ _ _ (Act.put _ (some 88) _) _
          try simp only [act_all]
          refine wpAnyH_take (i := 17) (oi := _) (v := _) rfl (by kernel_rfl) (by kernel_rfl) (by kernel_rfl) (fun _ _ _ h => h) (Or.inr ⟨by rfl, rfl⟩) (by assumption) ?_
          try change wpAnyH _ _ _ _ _ _ _ (Act.put _ (some 89) _) _
          try simp only [act_all]
          refine wpAnyH_take (i := 18) (oi := _) (v := _) rfl (by kernel_rfl) (by kernel_rfl) (by kernel_rfl) (fun _ _ _ h => h) (Or.inr ⟨by rfl, rfl⟩) (by assumption) ?_
          try change wpAnyH _ _ _ _ _ _ _ (Act.put _ (some 90) _) _
          try simp only [act_all]
          refine wpAnyH_take (i := 19) (oi := _) (v := _) rfl (by kernel_rfl) (by kernel_rfl) (by kernel_rfl) (fun _ _ _ h => h) (Or.inr ⟨by rfl, rfl⟩) (by assumption) ?_
          try change wpAnyH _ _ _ _ _ _ _ (Act.put _ (some 91) _) _
          try simp only [act_all]
          refine wpAnyH_take (i := 20) (oi := _) (v := _) rfl (by kernel_rfl) (by kernel_rfl) (by kernel_rfl) (fun _ _ _ h => h) (Or.inr ⟨by rfl, rfl⟩) (by assumption) ?_
          try change wpAnyH _ _ _ _ _ _ _ (Act.put _ (some 92) _) _
          try simp only [act_all]
          refine wpAnyH_take (i := 21) (oi := _) (v := _) rfl (by kernel_rfl) (by kernel_rfl) (by kernel_rfl) (fun _ _ _ h => h) (Or.inr ⟨by rfl, rfl⟩) (by assumption) ?_
          try change wpAnyH _ _ _ _ _ _ _ (Act.put _ (some 93) _) _
          try simp only [act_all]
          refine wpAnyH_take (i := 22) (oi := _) (v := _) rfl (by kernel_rfl) (by kernel_rfl) (by kernel_rfl) (fun _ _ _ h => h) (Or.inr ⟨by rfl, rfl⟩) (by assumption) ?_
          try change wpAnyH _ _ _ _ _ _ _ (Act.put _ (some 94) _) _
          try simp only [act_all]
          refine wpAnyH_take (i := 23) (oi := _) (v := _) rfl (by kernel_rfl) (by kernel_rfl) (by kernel_rfl) (fun _ _ _ h => h) (Or.inr ⟨by rfl, rfl⟩) (by assumption) ?_
          try change wpAnyH _ _ _ _ _ _ _ (Act.put _ (some 95) _) _
          try simp only [act_all]
          refine wpAnyH_take (i := 24) (oi := _) (v := _) rfl (by kernel_rfl) (by kernel_rfl) (by kernel_rfl) (fun _ _ _ h => h) (Or.inr ⟨by rfl, rfl⟩) (by assumption) ?_
          try change wpAnyH _ _ _ _ _ _ _ (Act.put _ (some 96) _) _
          try simp only [act_all]
          refine wpAnyH_take (i := 25) (oi := _) (v := ?_) rfl (by kernel_rfl) (by kernel_rfl) (by kernel_rfl) (fun _ _ _ h => h) (Or.inl ⟨by rfl, ?_⟩) (by assumption) ?_
          rotate_left
          · intro w hSw; obtain ⟨s0, s1, s2⟩ := hSw; go_simp; (try with_reducible rfl)
          try change wpAnyH _ _ _ _ _ _ _ (Act.put _ (some 97) _) _
          try simp only [act_all]
          refine wpAnyH_done (by kernel_rfl) ?_ _
          clear hHeld
          have hlast := HQ1
          have hz9 := HQ1.size
          go_wp2_with fail
          go_roundg (4 - (d + 1))
          case measure => have := HGD.out; omega
          case rel => exact ⟨d + 1, by go_num, by omega, Lib.hid (Nat.le_refl _), HAn, Lib.hid ((hlast.block _ (by omega)).trans KX1.out), Lib.hid ((hlast.block _ (by omega)).trans KG1.out), Lib.hid ((hlast.block _ (by omega)).trans KT1.out), Lib.hid (HB1.out.trans (hlast.mono (by omega))), by omega⟩
        by_cases hop2 : opB W H (blkN X Y n) px py = true
        case neg =>
          replace hop2 : opB W H (blkN X Y n) px py = false := by simpa using hop2
          have HAn : Hid (anyN (badS W H M (blkN X Y n) f i) (d + 1) = false) := Lib.hid (by show (anyN _ d || badS W H M (blkN X Y n) f i d) = false; rw [HAd.out, HBS.out, hop2]; simp)
          have G0 : Hid (∀ w' : World, Below wd.heap.size wd w' → w'.heap[b3]? = some (.cells #[.int .i64 W, .int .i64 H, .int .i64 M, .int .i64 B, .slice ao n cp] 24 (0, 0)) ∧ w'.heap[b12]? = some (.cells #[.int .i64 x, .int .i64 y] 26 (0, 0)) ∧ w'.heap[b14]? = some (.cells #[.int .i64 px, .int .i64 py] 26 (0, 0))) := Lib.hid (fun w' hb => ⟨(hb.block _ (by omega)).trans KG1.out, (hb.block _ (by omega)).trans KX1.out, (hb.block _ hzd).trans K14.out⟩)
          have HQ0 : Below wd.heap.size wd wd.drew := (Below.refl _ _).drew
          refine wp_region_held_drew (S := fun w' => w'.heap[b3]? = some (.cells #[.int .i64 W, .int .i64 H, .int .i64 M, .int .i64 B, .slice ao n cp] 24 (0, 0)) ∧ w'.heap[b12]? = some (.cells #[.int .i64 x, .int .i64 y] 26 (0, 0)) ∧ w'.heap[b14]? = some (.cells #[.int .i64 px, .int .i64 py] 26 (0, 0))) (by kernel_rfl) (G0.out _ HQ0) (fun hHeld => ?_)
          refine wpAnyH_take (i := 0) (oi := _) (v := _) rfl (by kernel_rfl) (by kernel_rfl) (by kernel_rfl) (fun _ _ _ h => h) (yieldsIf_load_mid (by rfl) 24 _ rfl b3 0 rfl ([.int .i64 W, .int .i64 H, .int .i64 M, .int .i64 B, .slice ao n cp]) _ (fun w' hh => range_row hh.1 0 [.int .i64 W, .int .i64 H, .int .i64 M, .int .i64 B, .slice ao n cp] (fun j hj => by simp only [Nat.zero_add, List.getElem?_toArray])) Try.underlying24 rfl (by kernel_rfl)) (by assumption) ?_
          try change wpAnyH _ _ _ _ _ _ _ (Act.put _ (some 72) _) _
          try simp only [act_all]
          refine wpAnyH_take (i := 1) (oi := _) (v := _) rfl (by kernel_rfl) (by kernel_rfl) (by kernel_rfl) (fun _ _ _ h => h) (yieldsIf_load_mid (by rfl) 26 _ rfl b12 0 rfl ([.int .i64 x, .int .i64 y]) _ (fun w' hh => range_row hh.2.1 0 [.int .i64 x, .int .i64 y] (fun j hj => by simp only [Nat.zero_add, List.getElem?_toArray])) Try.underlying26 rfl (by kernel_rfl)) (by assumption) ?_
          try change wpAnyH _ _ _ _ _ _ _ (Act.put _ (some 73) _) _
          try simp only [act_all]
          refine wpAnyH_ready (rs := [2]) (by kernel_rfl) (by simp) ?_
          refine AllReadyH.cons (o := _) rfl (fun K hK => ?_) AllReadyH.nil
          go_simp
          refine (rOpen_any W H M B x y n cp ao X Y _ hn63 (HC.out.keep (HB1.out.trans (HQ0.mono (by omega))))).mono ?_
          rw [hop1]
          rintro e_ t2 ⟨rfl, hb⟩
          have HQ2 : Below wd.heap.size wd t2 := HQ0.trans (hb.mono HQ0.size)
          clear hb hHeld
          refine hK.out _ _ (G0.out _ HQ2) (fun hHeld => ?_)
          clear hK K
          try simp only [act_all]
          refine wpAnyH_take (i := 3) (oi := _) (v := ?_) rfl (by kernel_rfl) (by kernel_rfl) (by kernel_rfl) (fun _ _ _ h => h) (Or.inl ⟨by rfl, ?_⟩) (by assumption) ?_
          rotate_left
          · intro w hSw; obtain ⟨s0, s1, s2⟩ := hSw; go_simp; (try with_reducible rfl)
          try change wpAnyH _ _ _ _ _ _ _ (Act.put _ (some 75) _) _
          try simp only [act_all]
          refine wpAnyH_take (i := 4) (oi := _) (v := _) rfl (by kernel_rfl) (by kernel_rfl) (by kernel_rfl) (fun _ _ _ h => h) (yieldsIf_load_mid (by rfl) 24 _ rfl b3 0 rfl ([.int .i64 W, .int .i64 H, .int .i64 M, .int .i64 B, .slice ao n cp]) _ (fun w' hh => range_row hh.1 0 [.int .i64 W, .int .i64 H, .int .i64 M, .int .i64 B, .slice ao n cp] (fun j hj => by simp only [Nat.zero_add, List.getElem?_toArray])) Try.underlying24 rfl (by kernel_rfl)) (by assumption) ?_
          try change wpAnyH _ _ _ _ _ _ _ (Act.put _ (some 76) _) _
          try simp only [act_all]
          refine wpAnyH_take (i := 5) (oi := _) (v := _) rfl (by kernel_rfl) (by kernel_rfl) (by kernel_rfl) (fun _ _ _ h => h) (yieldsIf_load_mid (by rfl) 26 _ rfl b14 0 rfl ([.int .i64 px, .int .i64 py]) _ (fun w' hh => range_row hh.2.2 0 [.int .i64 px, .int .i64 py] (fun j hj => by simp only [Nat.zero_add, List.getElem?_toArray])) Try.underlying26 rfl (by kernel_rfl)) (by assumption) ?_
          try change wpAnyH _ _ _ _ _ _ _ (Act.put _ (some 77) _) _
          try simp only [act_all]
          refine wpAnyH_ready (rs := [6]) (by kernel_rfl) (by simp) ?_
          refine AllReadyH.cons (o := _) rfl (fun K hK => ?_) AllReadyH.nil
          go_simp
          refine (rOpen_any W H M B px py n cp ao X Y _ hn63 (HC.out.keep (HB1.out.trans (HQ2.mono (by omega))))).mono ?_
          rw [hop2]
          rintro e_ t3 ⟨rfl, hb⟩
          have HQ3 : Below wd.heap.size wd t3 := HQ2.trans (hb.mono HQ2.size)
          clear hb hHeld
          refine hK.out _ _ (G0.out _ HQ3) (fun hHeld => ?_)
          clear hK K
          try simp only [act_all]
          refine wpAnyH_take (i := 7) (oi := _) (v := ?_) rfl (by kernel_rfl) (by kernel_rfl) (by kernel_rfl) (fun _ _ _ h => h) (Or.inl ⟨by rfl, ?_⟩) (by assumption) ?_
          rotate_left
          · intro w hSw; obtain ⟨s0, s1, s2⟩ := hSw; go_simp; (try with_reducible rfl)
          try change wpAnyH _ _ _ _ _ _ _ (Act.put _ (some 79) _) _
          try simp only [act_all]
          refine wpAnyH_take (i := 8) (oi := _) (v := ?_) rfl (by kernel_rfl) (by kernel_rfl) (by kernel_rfl) (fun _ _ _ h => h) (Or.inl ⟨by rfl, ?_⟩) (by assumption) ?_
          rotate_left
          · intro w hSw; obtain ⟨s0, s1, s2⟩ := hSw; go_simp; (try with_reducible rfl)
          try change wpAnyH _ _ _ _ _ _ _ (Act.put _ (some 80) _) _
          try simp only [act_all]
          refine wpAnyH_take (i := 9) (oi := _) (v := _) rfl (by kernel_rfl) (by kernel_rfl) (by kernel_rfl) (fun _ _ _ h => h) (Or.inr ⟨by rfl, rfl⟩) (by assumption) ?_
          try change wpAnyH _ _ _ _ _ _ _ (Act.put _ (some 81) _) _
          try simp only [act_all]
          refine wpAnyH_take (i := 10) (oi := _) (v := _) rfl (by kernel_rfl) (by kernel_rfl) (by kernel_rfl) (fun _ _ _ h => h) (Or.inr ⟨by rfl, rfl⟩) (by assumption) ?_
          try change wpAnyH _ _ _ _ _ _ _ (Act.put _ (some 82) _) _
          try simp only [act_all]
          refine wpAnyH_take (i := 11) (oi := _) (v := _) rfl (by kernel_rfl) (by kernel_rfl) (by kernel_rfl) (fun _ _ _ h => h) (Or.inr ⟨by rfl, rfl⟩) (by assumption) ?_
          try change wpAnyH _ _ _ _ _ _ _ (Act.put _ (some 83) _) _
          try simp only [act_all]
          refine wpAnyH_take (i := 12) (oi := _) (v := _) rfl (by kernel_rfl) (by kernel_rfl) (by kernel_rfl) (fun _ _ _ h => h) (Or.inr ⟨by rfl, rfl⟩) (by assumption) ?_
          try change wpAnyH _ _ _ _ _ _ _ (Act.put _ (some 84) _) _
          try simp only [act_all]
          refine wpAnyH_take (i := 13) (oi := _) (v := _) rfl (by kernel_rfl) (by kernel_rfl) (by kernel_rfl) (fun _ _ _ h => h) (Or.inr ⟨by rfl, rfl⟩) (by assumption) ?_
          try change wpAnyH _ _ _ _ _ _ _ (Act.put _ (some 85) _) _
          try simp only [act_all]
          refine wpAnyH_take (i := 14) (oi := _) (v := _) rfl (by kernel_rfl) (by kernel_rfl) (by kernel_rfl) (fun _ _ _ h => h) (Or.inr ⟨by rfl, rfl⟩) (by assumption) ?_
          try change wpAnyH _ _ _ _ _ _ _ (Act.put _ (some 86) _) _
          try simp only [act_all]
          refine wpAnyH_take (i := 15) (oi := _) (v := _) rfl (by kernel_rfl) (by kernel_rfl) (by kernel_rfl) (fun _ _ _ h => h) (Or.inr ⟨by rfl, rfl⟩) (by assumption) ?_
          try change wpAnyH _ _ _ _ _ _ _ (Act.put _ (some 87) _) _
          try simp only [act_all]
          refine wpAnyH_take (i := 16) (oi := _) (v := _) rfl (by kernel_rfl) (by kernel_rfl) (by kernel_rfl) (fun _ _ _ h => h) (Or.inr ⟨by rfl, rfl⟩) (by assumption) ?_
          try change wpAnyH _ _ _ _ _ _ _ (Act.put _ (some 88) _) _
          try simp only [act_all]
          refine wpAnyH_take (i := 17) (oi := _) (v := _) rfl (by kernel_rfl) (by kernel_rfl) (by kernel_rfl) (fun _ _ _ h => h) (Or.inr ⟨by rfl, rfl⟩) (by assumption) ?_
          try change wpAnyH _ _ _ _ _ _ _ (Act.put _ (some 89) _) _
          try simp only [act_all]
          refine wpAnyH_take (i := 18) (oi := _) (v := _) rfl (by kernel_rfl) (by kernel_rfl) (by kernel_rfl) (fun _ _ _ h => h) (Or.inr ⟨by rfl, rfl⟩) (by assumption) ?_
          try change wpAnyH _ _ _ _ _ _ _ (Act.put _ (some 90) _) _
          try simp only [act_all]
          refine wpAnyH_take (i := 19) (oi := _) (v := _) rfl (by kernel_rfl) (by kernel_rfl) (by kernel_rfl) (fun _ _ _ h => h) (Or.inr ⟨by rfl, rfl⟩) (by assumption) ?_
          try change wpAnyH _ _ _ _ _ _ _ (Act.put _ (some 91) _) _
          try simp only [act_all]
          refine wpAnyH_take (i := 20) (oi := _) (v := _) rfl (by kernel_rfl) (by kernel_rfl) (by kernel_rfl) (fun _ _ _ h => h) (Or.inr ⟨by rfl, rfl⟩) (by assumption) ?_
          try change wpAnyH _ _ _ _ _ _ _ (Act.put _ (some 92) _) _
          try simp only [act_all]
          refine wpAnyH_take (i := 21) (oi := _) (v := _) rfl (by kernel_rfl) (by kernel_rfl) (by kernel_rfl) (fun _ _ _ h => h) (Or.inr ⟨by rfl, rfl⟩) (by assumption) ?_
          try change wpAnyH _ _ _ _ _ _ _ (Act.put _ (some 93) _) _
          try simp only [act_all]
          refine wpAnyH_take (i := 22) (oi := _) (v := _) rfl (by kernel_rfl) (by kernel_rfl) (by kernel_rfl) (fun _ _ _ h => h) (Or.inr ⟨by rfl, rfl⟩) (by assumption) ?_
          try change wpAnyH _ _ _ _ _ _ _ (Act.put _ (some 94) _) _
          try simp only [act_all]
          refine wpAnyH_take (i := 23) (oi := _) (v := _) rfl (by kernel_rfl) (by kernel_rfl) (by kernel_rfl) (fun _ _ _ h => h) (Or.inr ⟨by rfl, rfl⟩) (by assumption) ?_
          try change wpAnyH _ _ _ _ _ _ _ (Act.put _ (some 95) _) _
          try simp only [act_all]
          refine wpAnyH_take (i := 24) (oi := _) (v := _) rfl (by kernel_rfl) (by kernel_rfl) (by kernel_rfl) (fun _ _ _ h => h) (Or.inr ⟨by rfl, rfl⟩) (by assumption) ?_
          try change wpAnyH _ _ _ _ _ _ _ (Act.put _ (some 96) _) _
          try simp only [act_all]
          refine wpAnyH_take (i := 25) (oi := _) (v := ?_) rfl (by kernel_rfl) (by kernel_rfl) (by kernel_rfl) (fun _ _ _ h => h) (Or.inl ⟨by rfl, ?_⟩) (by assumption) ?_
          rotate_left
          · intro w hSw; obtain ⟨s0, s1, s2⟩ := hSw; go_simp; (try with_reducible rfl)
          try change wpAnyH _ _ _ _ _ _ _ (Act.put _ (some 97) _) _
          try simp only [act_all]
          refine wpAnyH_done (by kernel_rfl) ?_ _
          clear hHeld
          have hlast := HQ3
          have hz9 := HQ3.size
          go_wp2_with fail
          go_roundg (4 - (d + 1))
          case measure => have := HGD.out; omega
          case rel => exact ⟨d + 1, by go_num, by omega, Lib.hid (Nat.le_refl _), HAn, Lib.hid ((hlast.block _ (by omega)).trans KX1.out), Lib.hid ((hlast.block _ (by omega)).trans KG1.out), Lib.hid ((hlast.block _ (by omega)).trans KT1.out), Lib.hid (HB1.out.trans (hlast.mono (by omega))), by omega⟩
        have hpon := (opB_iff.1 hop2).1
        obtain ⟨hj0, hj1⟩ := idx_lt HN.out (x := px) (y := py) ⟨hpon.1, hpon.2.1⟩ ⟨hpon.2.2.1, hpon.2.2.2⟩
        obtain ⟨j, hj⟩ : ∃ k : Nat, py * W + px = k := ⟨(py * W + px).toNat, by omega⟩
        have hjN : j < N := by omega
        have hNl : N ≤ 900 := by have := HN.out; omega
        have WA : Hid (IntKind.i64.wrap (py * W) = py * W) := Lib.hid (by rw [IntKind.wrap_i64]; omega)
        have WB : Hid (IntKind.i64.wrap (py * W + px) = (j : Int)) := Lib.hid (by rw [← hj, IntKind.wrap_i64]; omega)
        obtain ⟨vj, hvj⟩ : ∃ z, f j = z := ⟨_, rfl⟩
        have hab1 := HABS.out i hiN
        have hab2 := HABS.out j hjN
        rw [HVI.out] at hab1
        rw [hvj] at hab2
        obtain ⟨bq, oq, heq, hfc⟩ := (HFAR.out.keep HB1.out) (by omega)
        simp only [Option.some.injEq, Addr.mk.injEq, and_true] at heq
        obtain ⟨rfl, rfl⟩ := heq
        have hjn : j < nf := by have := HNF.out; omega
        have cJ : Hid (wd.cell? ⟨bfa, ofa + j, none⟩ = some (.int .i64 vj)) := Lib.hid (by rw [← hvj]; exact hfc j hjn)
        have HBV : Hid (badS W H M (blkN X Y n) f i d = decide (vj + M < vi)) := Lib.hid (by rw [HBS.out, hop1, hop2, Bool.true_and, Bool.true_and, hj, HVI.out]; simp [hvj])
        have WR1 : Hid (IntKind.i64.wrap (vj + M) = vj + M) := Lib.hid (by rw [IntKind.wrap_i64]; omega)
        clear hj hvj hfc
        by_cases hlt3 : vj + M < vi
        case pos =>
          have HR : Hid (prS W H M tx ty (blkN X Y n) f N = false) := Lib.hid (by rw [HPR.out, anyN_stop (k := i) (by rw [HRB2.out]; exact anyN_stop (k := d) (by rw [HBV.out]; exact decide_eq_true hlt3) 4 hdl) N hiN]; rfl)
          have G0 : Hid (∀ w' : World, Below wd.heap.size wd w' → w'.heap[b3]? = some (.cells #[.int .i64 W, .int .i64 H, .int .i64 M, .int .i64 B, .slice ao n cp] 24 (0, 0)) ∧ w'.heap[b12]? = some (.cells #[.int .i64 x, .int .i64 y] 26 (0, 0)) ∧ w'.heap[b14]? = some (.cells #[.int .i64 px, .int .i64 py] 26 (0, 0)) ∧ w'.cell? ⟨b14, 1, none⟩ = some (.int .i64 py) ∧ w'.cell? ⟨b14, 0, none⟩ = some (.int .i64 px) ∧ w'.cell? ⟨b3, 0, none⟩ = some (.int .i64 W) ∧ w'.cell? ⟨b3, 2, none⟩ = some (.int .i64 M) ∧ w'.cell? ⟨bfa, ofa + j, none⟩ = some (.int .i64 vj)) := Lib.hid (fun w' hb => ⟨(hb.block _ (by omega)).trans KG1.out, (hb.block _ (by omega)).trans KX1.out, (hb.block _ hzd).trans K14.out, cell_of_blk ((hb.block _ hzd).trans K14.out) rfl, cell_of_blk ((hb.block _ hzd).trans K14.out) rfl, cell_of_blk ((hb.block _ (by omega)).trans KG1.out) rfl, cell_of_blk ((hb.block _ (by omega)).trans KG1.out) rfl, ((bcl hb).1 _ _ (World.block_lt_of_cell? _ _ cJ.out)).trans cJ.out⟩)
          have HQ0 : Below wd.heap.size wd wd.drew := (Below.refl _ _).drew
          refine wp_region_held_drew (S := fun w' => w'.heap[b3]? = some (.cells #[.int .i64 W, .int .i64 H, .int .i64 M, .int .i64 B, .slice ao n cp] 24 (0, 0)) ∧ w'.heap[b12]? = some (.cells #[.int .i64 x, .int .i64 y] 26 (0, 0)) ∧ w'.heap[b14]? = some (.cells #[.int .i64 px, .int .i64 py] 26 (0, 0)) ∧ w'.cell? ⟨b14, 1, none⟩ = some (.int .i64 py) ∧ w'.cell? ⟨b14, 0, none⟩ = some (.int .i64 px) ∧ w'.cell? ⟨b3, 0, none⟩ = some (.int .i64 W) ∧ w'.cell? ⟨b3, 2, none⟩ = some (.int .i64 M) ∧ w'.cell? ⟨bfa, ofa + j, none⟩ = some (.int .i64 vj)) (by kernel_rfl) (G0.out _ HQ0) (fun hHeld => ?_)
          refine wpAnyH_take (i := 0) (oi := _) (v := _) rfl (by kernel_rfl) (by kernel_rfl) (by kernel_rfl) (fun _ _ _ h => h) (yieldsIf_load_mid (by rfl) 24 _ rfl b3 0 rfl ([.int .i64 W, .int .i64 H, .int .i64 M, .int .i64 B, .slice ao n cp]) _ (fun w' hh => range_row hh.1 0 [.int .i64 W, .int .i64 H, .int .i64 M, .int .i64 B, .slice ao n cp] (fun j hj => by simp only [Nat.zero_add, List.getElem?_toArray])) Try.underlying24 rfl (by kernel_rfl)) (by assumption) ?_
          try change wpAnyH _ _ _ _ _ _ _ (Act.put _ (some 72) _) _
          try simp only [act_all]
          refine wpAnyH_take (i := 1) (oi := _) (v := _) rfl (by kernel_rfl) (by kernel_rfl) (by kernel_rfl) (fun _ _ _ h => h) (yieldsIf_load_mid (by rfl) 26 _ rfl b12 0 rfl ([.int .i64 x, .int .i64 y]) _ (fun w' hh => range_row hh.2.1 0 [.int .i64 x, .int .i64 y] (fun j hj => by simp only [Nat.zero_add, List.getElem?_toArray])) Try.underlying26 rfl (by kernel_rfl)) (by assumption) ?_
          try change wpAnyH _ _ _ _ _ _ _ (Act.put _ (some 73) _) _
          try simp only [act_all]
          refine wpAnyH_ready (rs := [2]) (by kernel_rfl) (by simp) ?_
          refine AllReadyH.cons (o := _) rfl (fun K hK => ?_) AllReadyH.nil
          go_simp
          refine (rOpen_any W H M B x y n cp ao X Y _ hn63 (HC.out.keep (HB1.out.trans (HQ0.mono (by omega))))).mono ?_
          rw [hop1]
          rintro e_ t4 ⟨rfl, hb⟩
          have HQ4 : Below wd.heap.size wd t4 := HQ0.trans (hb.mono HQ0.size)
          clear hb hHeld
          refine hK.out _ _ (G0.out _ HQ4) (fun hHeld => ?_)
          clear hK K
          try simp only [act_all]
          refine wpAnyH_take (i := 3) (oi := _) (v := ?_) rfl (by kernel_rfl) (by kernel_rfl) (by kernel_rfl) (fun _ _ _ h => h) (Or.inl ⟨by rfl, ?_⟩) (by assumption) ?_
          rotate_left
          · intro w hSw; obtain ⟨s0, s1, s2, s3, s4, s5, s6, s7⟩ := hSw; go_simp; (try with_reducible rfl)
          try change wpAnyH _ _ _ _ _ _ _ (Act.put _ (some 75) _) _
          try simp only [act_all]
          refine wpAnyH_take (i := 4) (oi := _) (v := _) rfl (by kernel_rfl) (by kernel_rfl) (by kernel_rfl) (fun _ _ _ h => h) (yieldsIf_load_mid (by rfl) 24 _ rfl b3 0 rfl ([.int .i64 W, .int .i64 H, .int .i64 M, .int .i64 B, .slice ao n cp]) _ (fun w' hh => range_row hh.1 0 [.int .i64 W, .int .i64 H, .int .i64 M, .int .i64 B, .slice ao n cp] (fun j hj => by simp only [Nat.zero_add, List.getElem?_toArray])) Try.underlying24 rfl (by kernel_rfl)) (by assumption) ?_
          try change wpAnyH _ _ _ _ _ _ _ (Act.put _ (some 76) _) _
          try simp only [act_all]
          refine wpAnyH_take (i := 5) (oi := _) (v := _) rfl (by kernel_rfl) (by kernel_rfl) (by kernel_rfl) (fun _ _ _ h => h) (yieldsIf_load_mid (by rfl) 26 _ rfl b14 0 rfl ([.int .i64 px, .int .i64 py]) _ (fun w' hh => range_row hh.2.2.1 0 [.int .i64 px, .int .i64 py] (fun j hj => by simp only [Nat.zero_add, List.getElem?_toArray])) Try.underlying26 rfl (by kernel_rfl)) (by assumption) ?_
          try change wpAnyH _ _ _ _ _ _ _ (Act.put _ (some 77) _) _
          try simp only [act_all]
          refine wpAnyH_ready (rs := [6]) (by kernel_rfl) (by simp) ?_
          refine AllReadyH.cons (o := _) rfl (fun K hK => ?_) AllReadyH.nil
          go_simp
          refine (rOpen_any W H M B px py n cp ao X Y _ hn63 (HC.out.keep (HB1.out.trans (HQ4.mono (by omega))))).mono ?_
          rw [hop2]
          rintro e_ t5 ⟨rfl, hb⟩
          have HQ5 : Below wd.heap.size wd t5 := HQ4.trans (hb.mono HQ4.size)
          clear hb hHeld
          refine hK.out _ _ (G0.out _ HQ5) (fun hHeld => ?_)
          clear hK K
          try simp only [act_all]
          refine wpAnyH_take (i := 7) (oi := _) (v := ?_) rfl (by kernel_rfl) (by kernel_rfl) (by kernel_rfl) (fun _ _ _ h => h) (Or.inl ⟨by rfl, ?_⟩) (by assumption) ?_
          rotate_left
          · intro w hSw; obtain ⟨s0, s1, s2, s3, s4, s5, s6, s7⟩ := hSw; go_simp; (try with_reducible rfl)
          try change wpAnyH _ _ _ _ _ _ _ (Act.put _ (some 79) _) _
          try simp only [act_all]
          refine wpAnyH_take (i := 8) (oi := _) (v := ?_) rfl (by kernel_rfl) (by kernel_rfl) (by kernel_rfl) (fun _ _ _ h => h) (Or.inl ⟨by rfl, ?_⟩) (by assumption) ?_
          rotate_left
          · intro w hSw; obtain ⟨s0, s1, s2, s3, s4, s5, s6, s7⟩ := hSw; go_simp; (try with_reducible rfl)
          try change wpAnyH _ _ _ _ _ _ _ (Act.put _ (some 80) _) _
          try simp only [act_all]
          refine wpAnyH_take (i := 9) (oi := _) (v := ?_) rfl (by kernel_rfl) (by kernel_rfl) (by kernel_rfl) (fun _ _ _ h => h) (Or.inl ⟨by rfl, ?_⟩) (by assumption) ?_
          rotate_left
          · intro w hSw; obtain ⟨s0, s1, s2, s3, s4, s5, s6, s7⟩ := hSw; go_simp; (try with_reducible rfl)
          try change wpAnyH _ _ _ _ _ _ _ (Act.put _ (some 81) _) _
          try simp only [act_all]
          refine wpAnyH_take (i := 10) (oi := _) (v := ?_) rfl (by kernel_rfl) (by kernel_rfl) (by kernel_rfl) (fun _ _ _ h => h) (Or.inl ⟨by rfl, ?_⟩) (by assumption) ?_
          rotate_left
          · intro w hSw; obtain ⟨s0, s1, s2, s3, s4, s5, s6, s7⟩ := hSw; go_simp; (try with_reducible rfl)
          try change wpAnyH _ _ _ _ _ _ _ (Act.put _ (some 82) _) _
          try simp only [act_all]
          refine wpAnyH_take (i := 11) (oi := _) (v := ?_) rfl (by kernel_rfl) (by kernel_rfl) (by kernel_rfl) (fun _ _ _ h => h) (Or.inl ⟨by rfl, ?_⟩) (by assumption) ?_
          rotate_left
          · intro w hSw; obtain ⟨s0, s1, s2, s3, s4, s5, s6, s7⟩ := hSw; go_simp; (try with_reducible rfl)
          try change wpAnyH _ _ _ _ _ _ _ (Act.put _ (some 83) _) _
          try simp only [act_all]
          refine wpAnyH_take (i := 12) (oi := _) (v := ?_) rfl (by kernel_rfl) (by kernel_rfl) (by kernel_rfl) (fun _ _ _ h => h) (Or.inl ⟨by rfl, ?_⟩) (by assumption) ?_
          rotate_left
          · intro w hSw; obtain ⟨s0, s1, s2, s3, s4, s5, s6, s7⟩ := hSw; go_simp; (try with_reducible rfl)
          try change wpAnyH _ _ _ _ _ _ _ (Act.put _ (some 84) _) _
          try simp only [act_all]
          refine wpAnyH_take (i := 13) (oi := _) (v := ?_) rfl (by kernel_rfl) (by kernel_rfl) (by kernel_rfl) (fun _ _ _ h => h) (Or.inl ⟨by rfl, ?_⟩) (by assumption) ?_
          rotate_left
          · intro w hSw; obtain ⟨s0, s1, s2, s3, s4, s5, s6, s7⟩ := hSw; go_simp; (try with_reducible rfl)
          try change wpAnyH _ _ _ _ _ _ _ (Act.put _ (some 85) _) _
          try simp only [act_all]
          refine wpAnyH_take (i := 14) (oi := _) (v := ?_) rfl (by kernel_rfl) (by kernel_rfl) (by kernel_rfl) (fun _ _ _ h => h) (Or.inl ⟨by rfl, ?_⟩) (by assumption) ?_
          rotate_left
          · intro w hSw; obtain ⟨s0, s1, s2, s3, s4, s5, s6, s7⟩ := hSw; go_simp; (try with_reducible rfl)
          try change wpAnyH _ _ _ _ _ _ _ (Act.put _ (some 86) _) _
          try simp only [act_all]
          refine wpAnyH_take (i := 15) (oi := _) (v := ?_) rfl (by kernel_rfl) (by kernel_rfl) (by kernel_rfl) (fun _ _ _ h => h) (Or.inl ⟨by rfl, ?_⟩) (by assumption) ?_
          rotate_left
          · intro w hSw; obtain ⟨s0, s1, s2, s3, s4, s5, s6, s7⟩ := hSw; go_simp; (try with_reducible rfl)
          try change wpAnyH _ _ _ _ _ _ _ (Act.put _ (some 87) _) _
          try simp only [act_all]
          try rw [WA.out]
          refine wpAnyH_take (i := 16) (oi := _) (v := ?_) rfl (by kernel_rfl) (by kernel_rfl) (by kernel_rfl) (fun _ _ _ h => h) (Or.inl ⟨by rfl, ?_⟩) (by assumption) ?_
          rotate_left
          · intro w hSw; obtain ⟨s0, s1, s2, s3, s4, s5, s6, s7⟩ := hSw; go_simp; (try with_reducible rfl)
          try change wpAnyH _ _ _ _ _ _ _ (Act.put _ (some 88) _) _
          try simp only [act_all]
          refine wpAnyH_take (i := 17) (oi := _) (v := ?_) rfl (by kernel_rfl) (by kernel_rfl) (by kernel_rfl) (fun _ _ _ h => h) (Or.inl ⟨by rfl, ?_⟩) (by assumption) ?_
          rotate_left
          · intro w hSw; obtain ⟨s0, s1, s2, s3, s4, s5, s6, s7⟩ := hSw; go_simp; (try with_reducible rfl)
          try change wpAnyH _ _ _ _ _ _ _ (Act.put _ (some 89) _) _
          try simp only [act_all]
          refine wpAnyH_take (i := 18) (oi := _) (v := ?_) rfl (by kernel_rfl) (by kernel_rfl) (by kernel_rfl) (fun _ _ _ h => h) (Or.inl ⟨by rfl, ?_⟩) (by assumption) ?_
          rotate_left
          · intro w hSw; obtain ⟨s0, s1, s2, s3, s4, s5, s6, s7⟩ := hSw; go_simp; (try with_reducible rfl)
          try change wpAnyH _ _ _ _ _ _ _ (Act.put _ (some 90) _) _
          try simp only [act_all]
          try rw [WB.out]
          refine wpAnyH_take (i := 19) (oi := _) (v := ?_) rfl (by kernel_rfl) (by kernel_rfl) (by kernel_rfl) (fun _ _ _ h => h) (Or.inl ⟨by rfl, ?_⟩) (by assumption) ?_
          rotate_left
          · intro w hSw; obtain ⟨s0, s1, s2, s3, s4, s5, s6, s7⟩ := hSw; go_simp; (try with_reducible rfl)
          try change wpAnyH _ _ _ _ _ _ _ (Act.put _ (some 91) _) _
          try simp only [act_all]
          refine wpAnyH_take (i := 20) (oi := _) (v := ?_) rfl (by kernel_rfl) (by kernel_rfl) (by kernel_rfl) (fun _ _ _ h => h) (Or.inl ⟨by rfl, ?_⟩) (by assumption) ?_
          rotate_left
          · intro w hSw; obtain ⟨s0, s1, s2, s3, s4, s5, s6, s7⟩ := hSw; go_simp; (try with_reducible rfl)
          try change wpAnyH _ _ _ _ _ _ _ (Act.put _ (some 92) _) _
          try simp only [act_all]
          refine wpAnyH_take (i := 21) (oi := _) (v := ?_) rfl (by kernel_rfl) (by kernel_rfl) (by kernel_rfl) (fun _ _ _ h => h) (Or.inl ⟨by rfl, ?_⟩) (by assumption) ?_
          rotate_left
          · intro w hSw; obtain ⟨s0, s1, s2, s3, s4, s5, s6, s7⟩ := hSw; go_simp; (try with_reducible rfl)
          try change wpAnyH _ _ _ _ _ _ _ (Act.put _ (some 93) _) _
          try simp only [act_all]
          refine wpAnyH_take (i := 22) (oi := _) (v := ?_) rfl (by kernel_rfl) (by kernel_rfl) (by kernel_rfl) (fun _ _ _ h => h) (Or.inl ⟨by rfl, ?_⟩) (by assumption) ?_
          rotate_left
          · intro w hSw; obtain ⟨s0, s1, s2, s3, s4, s5, s6, s7⟩ := hSw; go_simp; (try with_reducible rfl)
          try change wpAnyH _ _ _ _ _ _ _ (Act.put _ (some 94) _) _
          try simp only [act_all]
          refine wpAnyH_take (i := 23) (oi := _) (v := ?_) rfl (by kernel_rfl) (by kernel_rfl) (by kernel_rfl) (fun _ _ _ h => h) (Or.inl ⟨by rfl, ?_⟩) (by assumption) ?_
          rotate_left
          · intro w hSw; obtain ⟨s0, s1, s2, s3, s4, s5, s6, s7⟩ := hSw; go_simp; (try with_reducible rfl)
          try change wpAnyH _ _ _ _ _ _ _ (Act.put _ (some 95) _) _
          try simp only [act_all]
          refine wpAnyH_take (i := 24) (oi := _) (v := ?_) rfl (by kernel_rfl) (by kernel_rfl) (by kernel_rfl) (fun _ _ _ h => h) (Or.inl ⟨by rfl, ?_⟩) (by assumption) ?_
          rotate_left
          · intro w hSw; obtain ⟨s0, s1, s2, s3, s4, s5, s6, s7⟩ := hSw; go_simp; (try with_reducible rfl)
          try change wpAnyH _ _ _ _ _ _ _ (Act.put _ (some 96) _) _
          try simp only [act_all]
          refine wpAnyH_take (i := 25) (oi := _) (v := ?_) rfl (by kernel_rfl) (by kernel_rfl) (by kernel_rfl) (fun _ _ _ h => h) (Or.inl ⟨by rfl, ?_⟩) (by assumption) ?_
          rotate_left
          · intro w hSw; obtain ⟨s0, s1, s2, s3, s4, s5, s6, s7⟩ := hSw; go_simp; (try with_reducible rfl)
          try change wpAnyH _ _ _ _ _ _ _ (Act.put _ (some 97) _) _
          try simp only [act_all]
          refine wpAnyH_done (by kernel_rfl) ?_ _
          clear hHeld
          rw [WR1.out]
          have HRR := Lib.hid (HB1.out.trans (HQ5.mono (by omega)))
          go_wp2_with fail
          refine bodyPost_ret (v := .tuple #[.bool false, .int .i64 0]) (by simp [results, Try.results18, go_sem]) rfl ⟨by rw [HAN.out, Bool.true_and, HR.out]; rfl, HRR.out⟩
        have HAn : Hid (anyN (badS W H M (blkN X Y n) f i) (d + 1) = false) := Lib.hid (by show (anyN _ d || badS W H M (blkN X Y n) f i d) = false; rw [HAd.out, HBV.out, decide_eq_false hlt3]; rfl)
        have G0 : Hid (∀ w' : World, Below wd.heap.size wd w' → w'.heap[b3]? = some (.cells #[.int .i64 W, .int .i64 H, .int .i64 M, .int .i64 B, .slice ao n cp] 24 (0, 0)) ∧ w'.heap[b12]? = some (.cells #[.int .i64 x, .int .i64 y] 26 (0, 0)) ∧ w'.heap[b14]? = some (.cells #[.int .i64 px, .int .i64 py] 26 (0, 0)) ∧ w'.cell? ⟨b14, 1, none⟩ = some (.int .i64 py) ∧ w'.cell? ⟨b14, 0, none⟩ = some (.int .i64 px) ∧ w'.cell? ⟨b3, 0, none⟩ = some (.int .i64 W) ∧ w'.cell? ⟨b3, 2, none⟩ = some (.int .i64 M) ∧ w'.cell? ⟨bfa, ofa + j, none⟩ = some (.int .i64 vj)) := Lib.hid (fun w' hb => ⟨(hb.block _ (by omega)).trans KG1.out, (hb.block _ (by omega)).trans KX1.out, (hb.block _ hzd).trans K14.out, cell_of_blk ((hb.block _ hzd).trans K14.out) rfl, cell_of_blk ((hb.block _ hzd).trans K14.out) rfl, cell_of_blk ((hb.block _ (by omega)).trans KG1.out) rfl, cell_of_blk ((hb.block _ (by omega)).trans KG1.out) rfl, ((bcl hb).1 _ _ (World.block_lt_of_cell? _ _ cJ.out)).trans cJ.out⟩)
        have HQ0 : Below wd.heap.size wd wd.drew := (Below.refl _ _).drew
        refine wp_region_held_drew (S := fun w' => w'.heap[b3]? = some (.cells #[.int .i64 W, .int .i64 H, .int .i64 M, .int .i64 B, .slice ao n cp] 24 (0, 0)) ∧ w'.heap[b12]? = some (.cells #[.int .i64 x, .int .i64 y] 26 (0, 0)) ∧ w'.heap[b14]? = some (.cells #[.int .i64 px, .int .i64 py] 26 (0, 0)) ∧ w'.cell? ⟨b14, 1, none⟩ = some (.int .i64 py) ∧ w'.cell? ⟨b14, 0, none⟩ = some (.int .i64 px) ∧ w'.cell? ⟨b3, 0, none⟩ = some (.int .i64 W) ∧ w'.cell? ⟨b3, 2, none⟩ = some (.int .i64 M) ∧ w'.cell? ⟨bfa, ofa + j, none⟩ = some (.int .i64 vj)) (by kernel_rfl) (G0.out _ HQ0) (fun hHeld => ?_)
        refine wpAnyH_take (i := 0) (oi := _) (v := _) rfl (by kernel_rfl) (by kernel_rfl) (by kernel_rfl) (fun _ _ _ h => h) (yieldsIf_load_mid (by rfl) 24 _ rfl b3 0 rfl ([.int .i64 W, .int .i64 H, .int .i64 M, .int .i64 B, .slice ao n cp]) _ (fun w' hh => range_row hh.1 0 [.int .i64 W, .int .i64 H, .int .i64 M, .int .i64 B, .slice ao n cp] (fun j hj => by simp only [Nat.zero_add, List.getElem?_toArray])) Try.underlying24 rfl (by kernel_rfl)) (by assumption) ?_
        try change wpAnyH _ _ _ _ _ _ _ (Act.put _ (some 72) _) _
        try simp only [act_all]
        refine wpAnyH_take (i := 1) (oi := _) (v := _) rfl (by kernel_rfl) (by kernel_rfl) (by kernel_rfl) (fun _ _ _ h => h) (yieldsIf_load_mid (by rfl) 26 _ rfl b12 0 rfl ([.int .i64 x, .int .i64 y]) _ (fun w' hh => range_row hh.2.1 0 [.int .i64 x, .int .i64 y] (fun j hj => by simp only [Nat.zero_add, List.getElem?_toArray])) Try.underlying26 rfl (by kernel_rfl)) (by assumption) ?_
        try change wpAnyH _ _ _ _ _ _ _ (Act.put _ (some 73) _) _
        try simp only [act_all]
        refine wpAnyH_ready (rs := [2]) (by kernel_rfl) (by simp) ?_
        refine AllReadyH.cons (o := _) rfl (fun K hK => ?_) AllReadyH.nil
        go_simp
        refine (rOpen_any W H M B x y n cp ao X Y _ hn63 (HC.out.keep (HB1.out.trans (HQ0.mono (by omega))))).mono ?_
        rw [hop1]
        rintro e_ t6 ⟨rfl, hb⟩
        have HQ6 : Below wd.heap.size wd t6 := HQ0.trans (hb.mono HQ0.size)
        clear hb hHeld
        refine hK.out _ _ (G0.out _ HQ6) (fun hHeld => ?_)
        clear hK K
        try simp only [act_all]
        refine wpAnyH_take (i := 3) (oi := _) (v := ?_) rfl (by kernel_rfl) (by kernel_rfl) (by kernel_rfl) (fun _ _ _ h => h) (Or.inl ⟨by rfl, ?_⟩) (by assumption) ?_
        rotate_left
        · intro w hSw; obtain ⟨s0, s1, s2, s3, s4, s5, s6, s7⟩ := hSw; go_simp; (try with_reducible rfl)
        try change wpAnyH _ _ _ _ _ _ _ (Act.put _ (some 75) _) _
        try simp only [act_all]
        refine wpAnyH_take (i := 4) (oi := _) (v := _) rfl (by kernel_rfl) (by kernel_rfl) (by kernel_rfl) (fun _ _ _ h => h) (yieldsIf_load_mid (by rfl) 24 _ rfl b3 0 rfl ([.int .i64 W, .int .i64 H, .int .i64 M, .int .i64 B, .slice ao n cp]) _ (fun w' hh => range_row hh.1 0 [.int .i64 W, .int .i64 H, .int .i64 M, .int .i64 B, .slice ao n cp] (fun j hj => by simp only [Nat.zero_add, List.getElem?_toArray])) Try.underlying24 rfl (by kernel_rfl)) (by assumption) ?_
        try change wpAnyH _ _ _ _ _ _ _ (Act.put _ (some 76) _) _
        try simp only [act_all]
        refine wpAnyH_take (i := 5) (oi := _) (v := _) rfl (by kernel_rfl) (by kernel_rfl) (by kernel_rfl) (fun _ _ _ h => h) (yieldsIf_load_mid (by rfl) 26 _ rfl b14 0 rfl ([.int .i64 px, .int .i64 py]) _ (fun w' hh => range_row hh.2.2.1 0 [.int .i64 px, .int .i64 py] (fun j hj => by simp only [Nat.zero_add, List.getElem?_toArray])) Try.underlying26 rfl (by kernel_rfl)) (by assumption) ?_
        try change wpAnyH _ _ _ _ _ _ _ (Act.put _ (some 77) _) _
        try simp only [act_all]
        refine wpAnyH_ready (rs := [6]) (by kernel_rfl) (by simp) ?_
        refine AllReadyH.cons (o := _) rfl (fun K hK => ?_) AllReadyH.nil
        go_simp
        refine (rOpen_any W H M B px py n cp ao X Y _ hn63 (HC.out.keep (HB1.out.trans (HQ6.mono (by omega))))).mono ?_
        rw [hop2]
        rintro e_ t7 ⟨rfl, hb⟩
        have HQ7 : Below wd.heap.size wd t7 := HQ6.trans (hb.mono HQ6.size)
        clear hb hHeld
        refine hK.out _ _ (G0.out _ HQ7) (fun hHeld => ?_)
        clear hK K
        try simp only [act_all]
        refine wpAnyH_take (i := 7) (oi := _) (v := ?_) rfl (by kernel_rfl) (by kernel_rfl) (by kernel_rfl) (fun _ _ _ h => h) (Or.inl ⟨by rfl, ?_⟩) (by assumption) ?_
        rotate_left
        · intro w hSw; obtain ⟨s0, s1, s2, s3, s4, s5, s6, s7⟩ := hSw; go_simp; (try with_reducible rfl)
        try change wpAnyH _ _ _ _ _ _ _ (Act.put _ (some 79) _) _
        try simp only [act_all]
        refine wpAnyH_take (i := 8) (oi := _) (v := ?_) rfl (by kernel_rfl) (by kernel_rfl) (by kernel_rfl) (fun _ _ _ h => h) (Or.inl ⟨by rfl, ?_⟩) (by assumption) ?_
        rotate_left
        · intro w hSw; obtain ⟨s0, s1, s2, s3, s4, s5, s6, s7⟩ := hSw; go_simp; (try with_reducible rfl)
        try change wpAnyH _ _ _ _ _ _ _ (Act.put _ (some 80) _) _
        try simp only [act_all]
        refine wpAnyH_take (i := 9) (oi := _) (v := ?_) rfl (by kernel_rfl) (by kernel_rfl) (by kernel_rfl) (fun _ _ _ h => h) (Or.inl ⟨by rfl, ?_⟩) (by assumption) ?_
        rotate_left
        · intro w hSw; obtain ⟨s0, s1, s2, s3, s4, s5, s6, s7⟩ := hSw; go_simp; (try with_reducible rfl)
        try change wpAnyH _ _ _ _ _ _ _ (Act.put _ (some 81) _) _
        try simp only [act_all]
        refine wpAnyH_take (i := 10) (oi := _) (v := ?_) rfl (by kernel_rfl) (by kernel_rfl) (by kernel_rfl) (fun _ _ _ h => h) (Or.inl ⟨by rfl, ?_⟩) (by assumption) ?_
        rotate_left
        · intro w hSw; obtain ⟨s0, s1, s2, s3, s4, s5, s6, s7⟩ := hSw; go_simp; (try with_reducible rfl)
        try change wpAnyH _ _ _ _ _ _ _ (Act.put _ (some 82) _) _
        try simp only [act_all]
        refine wpAnyH_take (i := 11) (oi := _) (v := ?_) rfl (by kernel_rfl) (by kernel_rfl) (by kernel_rfl) (fun _ _ _ h => h) (Or.inl ⟨by rfl, ?_⟩) (by assumption) ?_
        rotate_left
        · intro w hSw; obtain ⟨s0, s1, s2, s3, s4, s5, s6, s7⟩ := hSw; go_simp; (try with_reducible rfl)
        try change wpAnyH _ _ _ _ _ _ _ (Act.put _ (some 83) _) _
        try simp only [act_all]
        refine wpAnyH_take (i := 12) (oi := _) (v := ?_) rfl (by kernel_rfl) (by kernel_rfl) (by kernel_rfl) (fun _ _ _ h => h) (Or.inl ⟨by rfl, ?_⟩) (by assumption) ?_
        rotate_left
        · intro w hSw; obtain ⟨s0, s1, s2, s3, s4, s5, s6, s7⟩ := hSw; go_simp; (try with_reducible rfl)
        try change wpAnyH _ _ _ _ _ _ _ (Act.put _ (some 84) _) _
        try simp only [act_all]
        refine wpAnyH_take (i := 13) (oi := _) (v := ?_) rfl (by kernel_rfl) (by kernel_rfl) (by kernel_rfl) (fun _ _ _ h => h) (Or.inl ⟨by rfl, ?_⟩) (by assumption) ?_
        rotate_left
        · intro w hSw; obtain ⟨s0, s1, s2, s3, s4, s5, s6, s7⟩ := hSw; go_simp; (try with_reducible rfl)
        try change wpAnyH _ _ _ _ _ _ _ (Act.put _ (some 85) _) _
        try simp only [act_all]
        refine wpAnyH_take (i := 14) (oi := _) (v := ?_) rfl (by kernel_rfl) (by kernel_rfl) (by kernel_rfl) (fun _ _ _ h => h) (Or.inl ⟨by rfl, ?_⟩) (by assumption) ?_
        rotate_left
        · intro w hSw; obtain ⟨s0, s1, s2, s3, s4, s5, s6, s7⟩ := hSw; go_simp; (try with_reducible rfl)
        try change wpAnyH _ _ _ _ _ _ _ (Act.put _ (some 86) _) _
        try simp only [act_all]
        refine wpAnyH_take (i := 15) (oi := _) (v := ?_) rfl (by kernel_rfl) (by kernel_rfl) (by kernel_rfl) (fun _ _ _ h => h) (Or.inl ⟨by rfl, ?_⟩) (by assumption) ?_
        rotate_left
        · intro w hSw; obtain ⟨s0, s1, s2, s3, s4, s5, s6, s7⟩ := hSw; go_simp; (try with_reducible rfl)
        try change wpAnyH _ _ _ _ _ _ _ (Act.put _ (some 87) _) _
        try simp only [act_all]
        try rw [WA.out]
        refine wpAnyH_take (i := 16) (oi := _) (v := ?_) rfl (by kernel_rfl) (by kernel_rfl) (by kernel_rfl) (fun _ _ _ h => h) (Or.inl ⟨by rfl, ?_⟩) (by assumption) ?_
        rotate_left
        · intro w hSw; obtain ⟨s0, s1, s2, s3, s4, s5, s6, s7⟩ := hSw; go_simp; (try with_reducible rfl)
        try change wpAnyH _ _ _ _ _ _ _ (Act.put _ (some 88) _) _
        try simp only [act_all]
        refine wpAnyH_take (i := 17) (oi := _) (v := ?_) rfl (by kernel_rfl) (by kernel_rfl) (by kernel_rfl) (fun _ _ _ h => h) (Or.inl ⟨by rfl, ?_⟩) (by assumption) ?_
        rotate_left
        · intro w hSw; obtain ⟨s0, s1, s2, s3, s4, s5, s6, s7⟩ := hSw; go_simp; (try with_reducible rfl)
        try change wpAnyH _ _ _ _ _ _ _ (Act.put _ (some 89) _) _
        try simp only [act_all]
        refine wpAnyH_take (i := 18) (oi := _) (v := ?_) rfl (by kernel_rfl) (by kernel_rfl) (by kernel_rfl) (fun _ _ _ h => h) (Or.inl ⟨by rfl, ?_⟩) (by assumption) ?_
        rotate_left
        · intro w hSw; obtain ⟨s0, s1, s2, s3, s4, s5, s6, s7⟩ := hSw; go_simp; (try with_reducible rfl)
        try change wpAnyH _ _ _ _ _ _ _ (Act.put _ (some 90) _) _
        try simp only [act_all]
        try rw [WB.out]
        refine wpAnyH_take (i := 19) (oi := _) (v := ?_) rfl (by kernel_rfl) (by kernel_rfl) (by kernel_rfl) (fun _ _ _ h => h) (Or.inl ⟨by rfl, ?_⟩) (by assumption) ?_
        rotate_left
        · intro w hSw; obtain ⟨s0, s1, s2, s3, s4, s5, s6, s7⟩ := hSw; go_simp; (try with_reducible rfl)
        try change wpAnyH _ _ _ _ _ _ _ (Act.put _ (some 91) _) _
        try simp only [act_all]
        refine wpAnyH_take (i := 20) (oi := _) (v := ?_) rfl (by kernel_rfl) (by kernel_rfl) (by kernel_rfl) (fun _ _ _ h => h) (Or.inl ⟨by rfl, ?_⟩) (by assumption) ?_
        rotate_left
        · intro w hSw; obtain ⟨s0, s1, s2, s3, s4, s5, s6, s7⟩ := hSw; go_simp; (try with_reducible rfl)
        try change wpAnyH _ _ _ _ _ _ _ (Act.put _ (some 92) _) _
        try simp only [act_all]
        refine wpAnyH_take (i := 21) (oi := _) (v := ?_) rfl (by kernel_rfl) (by kernel_rfl) (by kernel_rfl) (fun _ _ _ h => h) (Or.inl ⟨by rfl, ?_⟩) (by assumption) ?_
        rotate_left
        · intro w hSw; obtain ⟨s0, s1, s2, s3, s4, s5, s6, s7⟩ := hSw; go_simp; (try with_reducible rfl)
        try change wpAnyH _ _ _ _ _ _ _ (Act.put _ (some 93) _) _
        try simp only [act_all]
        refine wpAnyH_take (i := 22) (oi := _) (v := ?_) rfl (by kernel_rfl) (by kernel_rfl) (by kernel_rfl) (fun _ _ _ h => h) (Or.inl ⟨by rfl, ?_⟩) (by assumption) ?_
        rotate_left
        · intro w hSw; obtain ⟨s0, s1, s2, s3, s4, s5, s6, s7⟩ := hSw; go_simp; (try with_reducible rfl)
        try change wpAnyH _ _ _ _ _ _ _ (Act.put _ (some 94) _) _
        try simp only [act_all]
        refine wpAnyH_take (i := 23) (oi := _) (v := ?_) rfl (by kernel_rfl) (by kernel_rfl) (by kernel_rfl) (fun _ _ _ h => h) (Or.inl ⟨by rfl, ?_⟩) (by assumption) ?_
        rotate_left
        · intro w hSw; obtain ⟨s0, s1, s2, s3, s4, s5, s6, s7⟩ := hSw; go_simp; (try with_reducible rfl)
        try change wpAnyH _ _ _ _ _ _ _ (Act.put _ (some 95) _) _
        try simp only [act_all]
        refine wpAnyH_take (i := 24) (oi := _) (v := ?_) rfl (by kernel_rfl) (by kernel_rfl) (by kernel_rfl) (fun _ _ _ h => h) (Or.inl ⟨by rfl, ?_⟩) (by assumption) ?_
        rotate_left
        · intro w hSw; obtain ⟨s0, s1, s2, s3, s4, s5, s6, s7⟩ := hSw; go_simp; (try with_reducible rfl)
        try change wpAnyH _ _ _ _ _ _ _ (Act.put _ (some 96) _) _
        try simp only [act_all]
        refine wpAnyH_take (i := 25) (oi := _) (v := ?_) rfl (by kernel_rfl) (by kernel_rfl) (by kernel_rfl) (fun _ _ _ h => h) (Or.inl ⟨by rfl, ?_⟩) (by assumption) ?_
        rotate_left
        · intro w hSw; obtain ⟨s0, s1, s2, s3, s4, s5, s6, s7⟩ := hSw; go_simp; (try with_reducible rfl)
        try change wpAnyH _ _ _ _ _ _ _ (Act.put _ (some 97) _) _
        try simp only [act_all]
        refine wpAnyH_done (by kernel_rfl) ?_ _
        clear hHeld
        rw [WR1.out]
        have hlast := HQ7
        have hz9 := HQ7.size
        go_wp2_with fail
        go_roundg (4 - (d + 1))
        case measure => have := HGD.out; omega
        case rel => exact ⟨d + 1, by go_num, by omega, Lib.hid (Nat.le_refl _), HAn, Lib.hid ((hlast.block _ (by omega)).trans KX1.out), Lib.hid ((hlast.block _ (by omega)).trans KG1.out), Lib.hid ((hlast.block _ (by omega)).trans KT1.out), Lib.hid (HB1.out.trans (hlast.mono (by omega))), by omega⟩
end Go.Proofs.Ytkkcnhhfdicppaa
