import Derived.Test.YtkkcnhhfdicppaaAw7
namespace Lay
/-- The first k cells of a grid so wide, row by row. -/
def clL (Wn k : Nat) : List (Int × Int) := (List.range k).map fun j => (((j % Wn : Nat) : Int), ((j / Wn : Nat) : Int))
theorem clL_len (Wn k : Nat) : (clL Wn k).length = k := by unfold clL; simp
theorem clL_next {Wn x y : Nat} (hx : x < Wn) : clL Wn (y * Wn + x + 1) = clL Wn (y * Wn + x) ++ [((x : Int), (y : Int))] := by
  unfold clL
  rw [List.range_succ, List.map_append, List.map_singleton]
  have h1 : (y * Wn + x) % Wn = x := by rw [Nat.mul_comm, Nat.mul_add_mod, Nat.mod_eq_of_lt hx]
  have h2 : (y * Wn + x) / Wn = y := by rw [Nat.mul_comm, Nat.mul_add_div (by omega), Nat.div_eq_of_lt hx]; omega
  rw [h1, h2]
theorem xyC_get : ∀ (l : List (Int × Int)) (j : Nat) (c : Int × Int), l[j]? = some c → (xyC l)[j * 2]? = some (.int .i64 c.1) ∧ (xyC l)[j * 2 + 1]? = some (.int .i64 c.2)
  | [], j, c, h => by simp at h
  | a :: l, 0, c, h => by
    simp at h
    subst h
    exact ⟨rfl, rfl⟩
  | a :: l, j + 1, c, h => by
    have ih := xyC_get l j c (by simpa using h)
    have e : xyC (a :: l) = .int .i64 a.1 :: .int .i64 a.2 :: xyC l := rfl
    rw [e, show (j + 1) * 2 = j * 2 + 1 + 1 by omega, show j * 2 + 1 + 1 + 1 = (j * 2 + 1) + 1 + 1 by omega]
    simpa using ih
end Lay
namespace Go.Proofs.Ytkkcnhhfdicppaa
open Go.RowKit Lay
/-- A list of the call's own, read as cells. -/
theorem own_xys {w : World} {b N : Nat} {v : Value} {l : List (Int × Int)} (h : w.ownsRow b 26 2 v N (xyC l)) (hN : l.length = N) : ∃ ao cap, v = .slice ao N cap ∧ XYs w ao N (fun j => (l.getD j (0, 0)).1) (fun j => (l.getD j (0, 0)).2) := by
  obtain ⟨_, ⟨rfl, hn⟩ | ⟨g, cap, cur, rfl, _, hb, _, _, hs, ht⟩⟩ := h
  · subst hn
    exact ⟨none, 0, rfl, fun h => absurd h (by omega)⟩
  · refine ⟨_, cap, rfl, fun _ => ⟨g, 0, rfl, fun i hi => ?_⟩⟩
    have hi' : i < l.length := by omega
    obtain ⟨h0, h1⟩ := xyC_get l i (l.getD i (0, 0)) (by rw [List.getD_eq_getElem?_getD, List.getElem?_eq_getElem hi']; rfl)
    have hc : ∀ j u, j < N * 2 → (xyC l)[j]? = some u → w.cell? ⟨g, j, none⟩ = some u := fun j u hj hu => by
      refine cell_of_blk hb ?_
      rw [← ht, List.getElem?_take_of_lt hj, Array.getElem?_toList] at hu
      exact hu
    refine ⟨?_, ?_⟩
    · rw [Nat.zero_add]; exact hc _ _ (by omega) h0
    · rw [Nat.zero_add]; exact hc _ _ (by omega) h1
theorem clL_get {Wn k j : Nat} (h : j < k) : (clL Wn k).getD j (0, 0) = (((j % Wn : Nat) : Int), ((j / Wn : Nat) : Int)) := by
  unfold clL
  rw [List.getD_eq_getElem?_getD, List.getElem?_map, List.getElem?_range h]
  rfl
set_option maxRecDepth 100000 in
set_option maxHeartbeats 8000000 in
theorem cells_any (M B : Int) (Wn Hn n cp m : Nat) (ao : Option Addr) (w : World) (hW9 : Wn ≤ 30) (hH9 : Hn ≤ 30) :
    Calls Try.prog 48 #[bdV Wn Hn M B ao n cp m] w fun e w' => ∃ v, e = .returned v ∧ w'.ownsRow w.heap.size 26 2 v (Hn * Wn) (xyC (clL Wn (Hn * Wn))) ∧ Below w.heap.size w w' := by
  obtain ⟨i0, hi, hz0, hz1', hz2'⟩ := info_parts xy_info
  have HI := Lib.hid (And.intro hi (And.intro hz0 (And.intro hz1' hz2')))
  clear hi hz0 hz1' hz2'
  have hTop : Hn * Wn ≤ 900 := Nat.le_trans (Nat.mul_le_mul hH9 hW9) (by decide)
  have HTOP := Lib.hid hTop
  clear hTop
  go_enter Try.func48, Try.ntmps48
  go_wp2_with fail
  go_loopg [3, 9] Hn (fun gg v3 v9 wr => ∃ y : Nat, v9 = .int .i64 y ∧ y ≤ Hn ∧ Hid (Hn - y ≤ gg) ∧ Hid (wr.ownsRow (w.heap.size + 1) 26 2 v3 (y * Wn) (xyC (clL Wn (y * Wn)))) ∧ Hid (wr.heap[w.heap.size]? = some (.cells #[.int .i64 Wn, .int .i64 Hn, .int .i64 M, .int .i64 B, .slice ao n cp, .map (some m)] 68 (0, 0))) ∧ Hid (Below w.heap.size w wr) ∧ w.heap.size < wr.heap.size)
  case atStart => exact ⟨0, rfl, by omega, Lib.hid (by omega), Lib.hid (by rw [Nat.zero_mul]; exact World.ownsRow_nil _ _ _ _), Lib.hid (heap_alloc_new w _), Lib.hid (by go_grown), by simp⟩
  case round =>
    obtain ⟨y, rfl, hy, HG, HO, HK, HB, hz⟩ := hrel
    by_cases hlt : y < Hn
    case neg =>
      obtain rfl : y = Hn := by omega
      go_wp2_with fail
      refine bodyPost_ret (v := u3) (by simp [results, Try.results48, go_sem, *]) rfl ⟨u3, rfl, ownsRow_base HO.out (by omega), HB.out⟩
    obtain ⟨c0, c1⟩ : wr.cell? ⟨w.heap.size, 0, none⟩ = some (.int .i64 Wn) ∧ wr.cell? ⟨w.heap.size, 1, none⟩ = some (.int .i64 Hn) := ⟨cell_of_blk HK.out rfl, cell_of_blk HK.out rfl⟩
    have HGG : Hid (Hn - y ≤ gk) := Lib.hid HG.out
    clear HG
    go_wp2_with fail
    obtain ⟨wo, hwo⟩ : ∃ z, z = wr := ⟨wr, rfl⟩
    subst hwo
    clear c0 c1
    go_loopg [3, 5, 15] Wn (fun gg v3 v5 v15 wr => ∃ x : Nat, v15 = .int .i64 x ∧ x ≤ Wn ∧ Hid (Wn - x ≤ gg) ∧ Hid (wr.ownsRow (w.heap.size + 1) 26 2 v3 (y * Wn + x) (xyC (clL Wn (y * Wn + x)))) ∧ Hid (wr.heap[w.heap.size]? = some (.cells #[.int .i64 Wn, .int .i64 Hn, .int .i64 M, .int .i64 B, .slice ao n cp, .map (some m)] 68 (0, 0))) ∧ Hid (Below w.heap.size w wr) ∧ w.heap.size < wr.heap.size)
    case atStart => exact ⟨0, rfl, by omega, Lib.hid (by omega), HO, HK, HB, hz⟩
    case round =>
      obtain ⟨x, rfl, hx, HG, HO', HK', HB', hz'⟩ := hrel
      clear HO HK HB hz
      have hyW : y * Wn + Wn ≤ Hn * Wn := by rw [← Nat.succ_mul]; exact Nat.mul_le_mul_right _ hlt
      have htop := HTOP.out
      have HYW := Lib.hid hyW
      by_cases hlx : x < Wn
      case neg =>
        obtain rfl : x = Wn := Nat.le_antisymm hx (Nat.le_of_not_lt hlx)
        clear hyW htop
        go_wp2_with fail
        go_roundg (Hn - (y + 1))
        case measure => have := HGG.out; omega
        case rel => exact ⟨y + 1, by go_num, by omega, Lib.hid (Nat.le_refl _), by rw [Nat.succ_mul]; exact HO', HK', HB', hz'⟩
      have hkk : y * Wn + x ≤ 900 := Nat.le_trans (Nat.le_trans (Nat.add_le_add_left (Nat.le_of_lt hlx) _) hyW) htop
      have HGI : Hid (Wn - x ≤ gk) := Lib.hid HG.out
      obtain ⟨kk, hkk2⟩ : ∃ z, y * Wn + x = z := ⟨_, rfl⟩
      have HKK := Lib.hid hkk2
      rw [hkk2] at HO' hkk
      clear HG hyW htop hkk2
      go_upto_region 8 with fail
      refine wp_region_lit ?_
      refine wpList_step (fun K hK => ?_); go_simp; refine hK _ _ ?_; clear hK K
      refine wpList_step (fun K hK => ?_); go_simp; refine hK _ _ ?_; clear hK K
      refine wpList_step (fun K hK => ?_); go_simp; refine hK _ _ ?_; clear hK K
      refine wpList_step (fun K hK => ?_); go_simp; refine hK _ _ ?_; clear hK K
      refine wpList_step (fun K hK => ?_); go_simp; refine hK _ _ ?_; clear hK K
      have hNB : (wr.alloc (.cells #[.int .i64 x, .int .i64 y] 26)).heap[wr.heap.size]? = some (.cells #[.int .i64 x, .int .i64 y] 26 (0, 0)) := heap_alloc_new wr _
      refine wpList_append_own _ rfl _ _ 22 rfl (w.heap.size + 1) 26 i0 _ 2 16 Try.underlying22 HI.out.1 HI.out.2.1 HI.out.2.2.1 HI.out.2.2.2 (by rfl) (by decide) u3 kk (xyC (clL Wn kk)) (by rfl) (HO'.out.alloc _) ⟨wr.heap.size, 0, none⟩ 1 1 [.int .i64 x, .int .i64 y] (by rfl) rfl (fun j u hu => World.news_of_block (cs := #[.int .i64 x, .int .i64 y]) hNB j u hu) (by intro u hu; simp only [List.mem_cons, List.not_mem_nil, or_false] at hu; rcases hu with rfl | rfl <;> rfl) (by unfold maxLen; omega) (by omega) (by simp; omega) ?_
      intro v' w9 hown' hgrow hnil
      have hlb := HO'.out.lt
      have hz9 : w.heap.size < w9.heap.size := by have := hgrow.size; simp at this; omega
      have HK9 : Hid (w9.heap[w.heap.size]? = some (.cells #[.int .i64 Wn, .int .i64 Hn, .int .i64 M, .int .i64 B, .slice ao n cp, .map (some m)] 68 (0, 0))) := Lib.hid ((hgrow.block _ (by simp; omega) (fun e => by have := (hlb _ e.symm).1; omega)).trans ((Below.heap_alloc _ _ _ hz').trans HK'.out))
      have HB9 : Hid (Below w.heap.size w w9) := Lib.hid ((HB'.out.alloc (by omega) _).grown hgrow (by simp; omega) (fun k hk => by have := (hlb k hk).1; omega))
      have HO9 : Hid (w9.ownsRow (w.heap.size + 1) 26 2 v' (y * Wn + (x + 1)) (xyC (clL Wn (y * Wn + (x + 1))))) := Lib.hid (by
        rw [show y * Wn + (x + 1) = y * Wn + x + 1 by omega, clL_next hlx, xyC_snoc, HKK.out]; exact hown')
      clear hown' hgrow hnil hlb hNB HO' HK' HB' hz'
      refine wpList_step (fun K hK => ?_); go_simp; refine hK _ _ ?_; clear hK K
      refine wpList_nil ?_
      go_wp2_with fail
      go_roundg (Wn - (x + 1))
      case measure => have := HGI.out; omega
      case rel => exact ⟨x + 1, by go_num, by omega, Lib.hid (Nat.le_refl _), HO9, HK9, HB9, hz9⟩

end Go.Proofs.Ytkkcnhhfdicppaa
