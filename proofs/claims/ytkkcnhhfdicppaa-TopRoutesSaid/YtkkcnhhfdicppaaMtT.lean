import Derived.Test.YtkkcnhhfdicppaaPh7
namespace Lay
/-- The greatest of the first lengths. -/
def mxN (N : Nat → Nat) : Nat → Nat
  | 0 => 0
  | k + 1 => max (mxN N k) (N k)
theorem mxN_le {N : Nat → Nat} {b : Nat} : ∀ {k : Nat}, (∀ j, j < k → N j ≤ b) → mxN N k ≤ b
  | 0, _ => Nat.zero_le _
  | k + 1, h => by
    have h1 := mxN_le (N := N) (b := b) (k := k) (fun j hj => h j (by omega))
    have h2 := h k (by omega)
    simp only [mxN]
    omega
theorem mxN_ge {N : Nat → Nat} : ∀ {k j : Nat}, j < k → N j ≤ mxN N k
  | 0, j, h => by omega
  | k + 1, j, h => by
    simp only [mxN]
    by_cases e : j = k
    · subst e; omega
    · have := mxN_ge (N := N) (k := k) (j := j) (by omega); omega
end Lay
namespace Go.Proofs.Ytkkcnhhfdicppaa
open Go.RowKit Lay
set_option maxRecDepth 100000 in
set_option maxHeartbeats 16000000 in
theorem pMatch_ok (W H M B : Int) (nb cb : Nat) (ao : Option Addr) (XB YB : Nat → Int) (mp cq : Nat) (sa : Option Addr) (A : Nat → Option Addr) (N C : Nat → Nat) (X Y : Nat → Nat → Int) (w : World) (hv : vaG W H M B nb XB YB = true) (h12 : mp ≤ 12) (hE : erN (fun j => chE W H (blkN XB YB nb) (X j) (Y j) (N j)) mp = 0)
    (hn : nb ≤ 9223372036854775807) (hc : XYs w ao nb XB YB) (hp : PSl w sa mp A N C X Y) (hN : ∀ j, j < mp → N j ≤ 1000 ∧ R2 (X j) (Y j) (N j)) :
    Calls Try.prog 67 #[.agg #[.int .i64 W, .int .i64 H, .int .i64 M, .int .i64 B, .slice ao nb cb], .slice sa mp cq] w fun e w' => Below w.heap.size w w' ∧ (e = .returned (.tuple #[.slice none 0 0, .int .i64 2]) ∨ ∃ al cl, e = .returned (.tuple #[.slice al mp cl, .int .i64 0]) ∧ Ints w' al mp (fun j => ((mxN N mp - N j : Nat) : Int)) ∧ ∀ j, j < mp → (mxN N mp - N j) % 2 = 0) := by
  obtain ⟨i0, hi, hi0, hi1, hi2⟩ := info_parts int_info
  have HI := Lib.hid (And.intro hi (And.intro hi0 (And.intro hi1 hi2)))
  clear hi hi0 hi1 hi2
  have HV := Lib.hid hv
  have HE := Lib.hid hE
  have HC := Lib.hid hc
  have HP := Lib.hid hp
  have HN := Lib.hid hN
  clear hv hE hc hp hN
  go_enter Try.func67, Try.ntmps67
  go_wp2_with fail
  refine (readPaths_ok W H M B nb cb ao XB YB mp cq sa A N C X Y _ HV.out (by omega) HE.out hn (HC.out.keep (by go_grown)) (by omega) (HP.out.keep (by go_grown)) (fun j hj => ⟨by have := (HN.out j hj).1; omega, (HN.out j hj).2⟩)).mono ?_
  rintro e w1 ⟨m, rfl, hm1, hbm, hb⟩
  have HB1 : Hid (Below w.heap.size w w1) := Lib.hid (Below.trans (by go_grown) (hb.mono (by simp)))
  have hz1 : w.heap.size < w1.heap.size := by have := hb.size; simp at this; omega
  clear hb hbm hm1
  obtain ⟨w2, hw2⟩ : ∃ z, z = w1.alloc (.cells #[.int .i64 W, .int .i64 H, .int .i64 M, .int .i64 B, .slice ao nb cb, .map (some m)] 68) := ⟨_, rfl⟩
  have HB2 : Hid (Below w.heap.size w w2) := Lib.hid (by rw [hw2]; exact HB1.out.alloc (by omega) _)
  have hz2 : w.heap.size ≤ w2.heap.size := HB2.out.size
  have HW2 := Lib.hid hw2
  clear HB1 hw2
  go_upto_region 4 with fail
  rw [← HW2.out]
  clear HW2
  go_wp2_with fail
  go_loopg [8, 26] mp (fun gg v8 v26 wr => ∃ k : Nat, v26 = .int .i64 k ∧ v8 = .int .i64 (mxN N k : Nat) ∧ k ≤ mp ∧ Hid (mp - k ≤ gg) ∧ Hid (Below w2.heap.size w2 wr))
  case atStart => exact ⟨0, rfl, rfl, Nat.zero_le _, Lib.hid (Nat.le_refl _), Lib.hid (Below.refl _ _)⟩
  case round =>
    obtain ⟨k, rfl, rfl, hk, HG, HB⟩ := hrel
    have HGG : Hid (mp - k ≤ gk) := Lib.hid HG.out
    clear HG
    by_cases hlt : k < mp
    case pos =>
      obtain ⟨bs, os, hse, hcell⟩ := (HP.out.keep (HB2.out.trans (HB.out.mono hz2))) (by omega)
      subst hse
      obtain ⟨c0, _⟩ := hcell k hlt
      obtain ⟨hNk, _⟩ := HN.out k hlt
      obtain ⟨ak, hak⟩ : ∃ z, A k = z := ⟨_, rfl⟩
      obtain ⟨nk, hnk⟩ : ∃ z, N k = z := ⟨_, rfl⟩
      obtain ⟨ck, hck⟩ : ∃ z, C k = z := ⟨_, rfl⟩
      rw [hak, hnk, hck] at c0
      have HNK := Lib.hid hnk
      have hlt2 : (k : Int) < mp := by omega
      clear hcell hak hnk hck
      go_wp2_with fail
      ·
        go_roundg (mp - (k + 1))
        case measure => have := HGG.out; omega
        case rel =>
          refine ⟨k + 1, by go_num, ?_, by omega, Lib.hid (Nat.le_refl _), HB⟩
          have := HNK.out
          simp only [mxN, Value.int.injEq, true_and]
          omega
      ·
        go_roundg (mp - (k + 1))
        case measure => have := HGG.out; omega
        case rel =>
          refine ⟨k + 1, by go_num, ?_, by omega, Lib.hid (Nat.le_refl _), HB⟩
          have := HNK.out
          simp only [mxN, Value.int.injEq, true_and]
          omega
    obtain rfl : k = mp := by omega
    obtain ⟨wo, hwo⟩ : ∃ z, z = wr := ⟨wr, rfl⟩
    subst hwo
    have HB3 : Hid (Below w.heap.size w wo) := Lib.hid (HB2.out.trans (HB.out.mono hz2))
    have hmx : mxN N k ≤ 1000 := mxN_le (fun j hj => (HN.out j hj).1)
    obtain ⟨mx, hMX⟩ : ∃ z, mxN N k = z := ⟨_, rfl⟩
    have HGE : Hid (∀ j, j < k → N j ≤ mx) := Lib.hid (fun j hj => by rw [← hMX]; exact mxN_ge hj)
    rw [hMX] at hmx ⊢
    have HMX := Lib.hid hMX
    clear hMX HB HB2 HGG
    go_wp2_with fail
    go_loopg [11, 37] k (fun gg v11 v37 wr => ∃ q : Nat, v37 = .int .i64 q ∧ q ≤ k ∧ Hid (k - q ≤ gg) ∧ Hid (wr.ownsRow wo.heap.size 3 1 v11 q (intC (fun j => ((mx - N j : Nat) : Int)) q)) ∧ Hid (Below wo.heap.size wo wr) ∧ Hid (∀ j, j < q → (mx - N j) % 2 = 0))
    case atStart => exact ⟨0, rfl, Nat.zero_le _, Lib.hid (Nat.le_refl _), Lib.hid (World.ownsRow_nil _ _ _ _), Lib.hid (Below.refl _ _), Lib.hid (fun j hj => by omega)⟩
    case round =>
      obtain ⟨q, rfl, hq, HG, HO, HB, HA⟩ := hrel
      have HGG : Hid (k - q ≤ gk) := Lib.hid HG.out
      clear HG
      have hz := HB.out.size
      have hzo := HB3.out.size
      by_cases hlq : q < k
      case neg =>
        obtain rfl : q = k := by omega
        obtain ⟨al, cl, rfl, hi⟩ := own_ints HO.out
        have HII := Lib.hid hi
        clear hi
        go_wp2_with fail
        refine bodyPost_ret (v := .tuple #[.slice al q cl, .int .i64 0]) (by simp [results, Try.results67, go_sem, *]) rfl ⟨HB3.out.trans (HB.out.mono hzo), Or.inr ⟨al, cl, rfl, by rw [HMX.out]; exact HII.out, by rw [HMX.out]; exact HA.out⟩⟩
      obtain ⟨bs, os, hse, hcell⟩ := (HP.out.keep (HB3.out.trans (HB.out.mono hzo))) (by omega)
      subst hse
      obtain ⟨c0, _⟩ := hcell q hlq
      have hge := HGE.out q hlq
      obtain ⟨ak, hak⟩ : ∃ z, A q = z := ⟨_, rfl⟩
      obtain ⟨nk, hnk⟩ : ∃ z, N q = z := ⟨_, rfl⟩
      obtain ⟨ck, hck⟩ : ∃ z, C q = z := ⟨_, rfl⟩
      rw [hak, hnk, hck] at c0
      rw [hnk] at hge
      have HNK := Lib.hid hnk
      have hlt2 : (q : Int) < k := by omega
      have hsub : IntKind.i64.wrap ((mx : Int) - nk) = ((mx - nk : Nat) : Int) := by rw [IntKind.wrap_i64]; omega
      clear hcell hak hnk hck
      by_cases hev : (mx - nk) % 2 = 0
      case neg =>
        have hd : ¬ (((mx - nk : Nat) : Int).tmod 2 = 0) := by rw [Int.tmod_eq_emod_of_nonneg (by omega)]; omega
        go_wp2_with fail
        refine bodyPost_ret (v := .tuple #[.slice none 0 0, .int .i64 2]) (by simp [results, Try.results67, go_sem]) rfl ⟨HB3.out.trans (HB.out.mono hzo), Or.inl rfl⟩
      have hd : ((mx - nk : Nat) : Int).tmod 2 = 0 := by rw [Int.tmod_eq_emod_of_nonneg (by omega)]; omega
      obtain ⟨dd, hdd⟩ : ∃ z, mx - nk = z := ⟨_, rfl⟩
      rw [hdd] at hd hsub hev
      have HDD := Lib.hid hdd
      have HEV := Lib.hid hev
      clear hdd hev
      go_upto_region 17 with fail
      refine wp_region_lit ?_
      refine wpList_step (fun K hK => ?_); go_simp; refine hK _ _ ?_; clear hK K
      refine wpList_step (fun K hK => ?_); go_simp; refine hK _ _ ?_; clear hK K
      refine wpList_step (fun K hK => ?_); go_simp; refine hK _ _ ?_; clear hK K
      have hNB : (wr.alloc (.cells #[.int .i64 dd] 3)).heap[wr.heap.size]? = some (.cells #[.int .i64 dd] 3 (0, 0)) := heap_alloc_new wr _
      refine wpList_append_own _ rfl _ _ 34 rfl wo.heap.size 3 i0 _ 1 8 Try.underlying34 HI.out.1 HI.out.2.1 HI.out.2.2.1 HI.out.2.2.2 (by rfl) (by decide) u11 q _ (by rfl) (HO.out.alloc _) ⟨wr.heap.size, 0, none⟩ 1 1 [.int .i64 dd] (by rfl) rfl (fun j u hu => World.news_of_block (cs := #[.int .i64 dd]) hNB j u hu) (by intro u hu; simp only [List.mem_cons, List.not_mem_nil, or_false] at hu; rcases hu with rfl; rfl) (by unfold maxLen; omega) (by omega) (by simp; omega) ?_
      intro v' w9 hown' hgrow hnil
      have hlb := HO.out.lt
      have HB9 : Hid (Below wo.heap.size wo w9) := Lib.hid ((HB.out.alloc (by omega) _).grown hgrow (by simp; omega) (fun k hk => by have := (hlb k hk).1; omega))
      have HO9 : Hid (w9.ownsRow wo.heap.size 3 1 v' (q + 1) (intC (fun j => ((mx - N j : Nat) : Int)) (q + 1))) := Lib.hid (by
        rw [intC_next, HNK.out, HDD.out]
        exact hown')
      clear hown' hgrow hnil hlb hNB HO HB
      refine wpList_step (fun K hK => ?_); go_simp; refine hK _ _ ?_; clear hK K
      refine wpList_nil ?_
      go_wp2_with fail
      go_roundg (k - (q + 1))
      case measure => have := HGG.out; omega
      case rel => exact ⟨q + 1, by go_num, by omega, Lib.hid (Nat.le_refl _), HO9, HB9, Lib.hid (fun j hj => by
        by_cases e : j = q
        · subst e; rw [HNK.out, HDD.out]; exact HEV.out
        · exact HA.out j (by omega))⟩
end Go.Proofs.Ytkkcnhhfdicppaa
