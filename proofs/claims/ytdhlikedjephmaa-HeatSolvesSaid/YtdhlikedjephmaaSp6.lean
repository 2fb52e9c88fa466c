import Derived.Test.YtdhlikedjephmaaHt
import Derived.Test.YtdhlikedjephmaaCo6
import Derived.Test.YtdhlikedjephmaaPa6
import Derived.Test.YtdhlikedjephmaaHw
namespace Heat
/-- The sum of a column. -/
def colS (N : Nat) (F : Nat → Nat → Int) (k : Nat) : Int := sumI (fun i => F i k) N
def spL (N : Nat) (F : Nat → Nat → Int) (p : Nat → Int) (x : Int) (k : Nat) : Int := colS N F k * p k * (1000 - x)
def spH (N : Nat) (F : Nat → Nat → Int) (p : Nat → Int) (x : Int) (k : Nat) : Int := colS N F k * p k * (1000 + x)
def spA (N : Nat) (F : Nat → Nat → Int) (p : Nat → Int) (x : Int) : Nat → Int
  | 0 => 0
  | k + 1 => spA N F p x k + min (spL N F p x k) (spH N F p x k)
def spB (N : Nat) (F : Nat → Nat → Int) (p : Nat → Int) (x : Int) : Nat → Int
  | 0 => 0
  | k + 1 => spB N F p x k + max (spL N F p x k) (spH N F p x k)
theorem sum_abs {f : Nat → Int} : ∀ {n : Nat}, (∀ j, j < n → -200 ≤ f j ∧ f j ≤ 200) → -200 * (n : Int) ≤ sumI f n ∧ sumI f n ≤ 200 * n
  | 0, _ => by unfold sumI; omega
  | n + 1, h => by
    have h1 := sum_abs (n := n) (fun j hj => h j (by omega))
    have h2 := h n (by omega)
    unfold sumI
    omega
theorem mul_bd {a b A B : Int} (ha : -A ≤ a ∧ a ≤ A) (hb : 0 ≤ b ∧ b ≤ B) (hA : 0 ≤ A) : -(A * B) ≤ a * b ∧ a * b ≤ A * B := by
  have h1 : a * b ≤ A * b := Int.mul_le_mul_of_nonneg_right ha.2 hb.1
  have h2 : A * b ≤ A * B := Int.mul_le_mul_of_nonneg_left hb.2 hA
  have h3 : -A * b ≤ a * b := Int.mul_le_mul_of_nonneg_right ha.1 hb.1
  have h4 : -A * b = -(A * b) := Int.neg_mul A b
  omega
theorem colS_bd {N : Nat} {F : Nat → Nat → Int} (hN : N ≤ 5) (hF : ∀ i, i < N → ∀ j, j < N → -200 ≤ F i j ∧ F i j ≤ 200) {k : Nat} (hk : k < N) : -1000 ≤ colS N F k ∧ colS N F k ≤ 1000 := by
  have := sum_abs (f := fun i => F i k) (n := N) (fun i hi => hF i hi k hk)
  unfold colS
  omega
theorem spL_bd {N : Nat} {F : Nat → Nat → Int} {p : Nat → Int} {x : Int} (hN : N ≤ 5) (hF : ∀ i, i < N → ∀ j, j < N → -200 ≤ F i j ∧ F i j ≤ 200) {k : Nat} (hk : k < N) (hp : 0 ≤ p k ∧ p k ≤ 1000) (hx : 0 ≤ x ∧ x ≤ 1000) :
    (-1000000 ≤ colS N F k * p k ∧ colS N F k * p k ≤ 1000000) ∧ (-1000000000 ≤ spL N F p x k ∧ spL N F p x k ≤ 1000000000) ∧ (-2000000000 ≤ spH N F p x k ∧ spH N F p x k ≤ 2000000000) := by
  have h1 := mul_bd (colS_bd hN hF hk) hp (by omega)
  have h1' : -1000000 ≤ colS N F k * p k ∧ colS N F k * p k ≤ 1000000 := by omega
  have h2 := mul_bd (b := 1000 - x) (B := 1000) h1' (by omega) (by omega)
  have h3 := mul_bd (b := 1000 + x) (B := 2000) h1' (by omega) (by omega)
  unfold spL spH
  omega
theorem spA_bd {N : Nat} {F : Nat → Nat → Int} {p : Nat → Int} {x : Int} (hN : N ≤ 5) (hF : ∀ i, i < N → ∀ j, j < N → -200 ≤ F i j ∧ F i j ≤ 200) (hp : ∀ k, k < N → 0 ≤ p k ∧ p k ≤ 1000) (hx : 0 ≤ x ∧ x ≤ 1000) : ∀ k, k ≤ N → (-2000000000 * (k : Int) ≤ spA N F p x k ∧ spA N F p x k ≤ 2000000000 * k) ∧ -2000000000 * (k : Int) ≤ spB N F p x k ∧ spB N F p x k ≤ 2000000000 * k
  | 0, _ => by unfold spA spB; omega
  | k + 1, h => by
    have h1 := spA_bd hN hF hp hx k (by omega)
    have h2 := spL_bd hN hF (show k < N by omega) (hp k (by omega)) hx
    unfold spA spB
    omega
def spE (N : Nat) (l : Nat → Nat) (F : Nat → Nat → Int) (m : Nat) (p : Nat → Int) (x : Int) : Int := if okG N l F = true then (if (inB m p N 0 1000 && (decide (0 ≤ x) && decide (x ≤ 1000))) = true then 0 else 2) else 60
def spV (N : Nat) (l : Nat → Nat) (F : Nat → Nat → Int) (m : Nat) (p : Nat → Int) (x : Int) : Int × Int := if spE N l F m p x = 0 then (spA N F p x N, spB N F p x N) else (0, 0)
theorem sp_no {N : Nat} {l : Nat → Nat} {F : Nat → Nat → Int} {m : Nat} {p : Nat → Int} {x : Int} (h : okG N l F = false) : spV N l F m p x = (0, 0) ∧ spE N l F m p x = 60 := by
  have e : spE N l F m p x = 60 := by unfold spE; rw [h]; rfl
  exact ⟨by unfold spV; rw [e]; rfl, e⟩
theorem sp_arg {N : Nat} {l : Nat → Nat} {F : Nat → Nat → Int} {m : Nat} {p : Nat → Int} {x : Int} (h : okG N l F = true) (h2 : (inB m p N 0 1000 && (decide (0 ≤ x) && decide (x ≤ 1000))) = false) : spV N l F m p x = (0, 0) ∧ spE N l F m p x = 2 := by
  have e : spE N l F m p x = 2 := by unfold spE; rw [h, h2]; rfl
  exact ⟨by unfold spV; rw [e]; rfl, e⟩
theorem sp_ok {N : Nat} {l : Nat → Nat} {F : Nat → Nat → Int} {m : Nat} {p : Nat → Int} {x : Int} (h : okG N l F = true) (h2 : (inB m p N 0 1000 && (decide (0 ≤ x) && decide (x ≤ 1000))) = true) : spV N l F m p x = (spA N F p x N, spB N F p x N) ∧ spE N l F m p x = 0 := by
  have e : spE N l F m p x = 0 := by unfold spE; rw [h, h2]; rfl
  exact ⟨by unfold spV; rw [e]; rfl, e⟩
end Heat
namespace Go.Proofs.Ytdhlikedjephmaa
open Go.RowKit Heat
set_option maxRecDepth 100000 in
set_option maxHeartbeats 8000000 in
theorem hSpread_no (N cap : Nat) (ao : Option Addr) (A : Nat → Option Addr) (l c : Nat → Nat) (F : Nat → Nat → Int) (m dap : Nat) (bo : Option Addr) (p : Nat → Int) (x : Int) (w : World) (hN : N ≤ 9223372036854775807) (hR : Rowsw w ao N A l c F) (hok : okG N l F = false) (hm : m ≤ 9223372036854775807) (hI : Ints w bo m p) :
    Calls Try.prog 23 #[.agg #[.slice ao N cap], .slice bo m dap, .int .i64 x] w fun e w' => e = .returned (.tuple #[.agg #[.int .i64 (spV N l F m p x).1, .int .i64 (spV N l F m p x).2], .int .i64 (spE N l F m p x)]) ∧ Below w.heap.size w w' := by
  have HG := Lib.hid hR
  have HOK := Lib.hid hok
  clear hR hok
  have HE : Hid (spV N l F m p x = (0, 0) ∧ spE N l F m p x = 60) := Lib.hid (sp_no HOK.out)
  clear hI
  have HX1 : Hid (Intw ((w.alloc (Obj.cells #[.slice ao N cap] 40)).alloc (Obj.cells #[.int .i64 0, .int .i64 0] 33)) (w.heap.size + 1) 2 (fun _ => 0)) := Lib.hid (fun j hj => by rcases (show j = 0 ∨ j = 1 by omega) with rfl | rfl <;> exact ⟨by go_cell, by go_cell⟩)
  have hbx : ((w.alloc (Obj.cells #[.slice ao N cap] 40)).alloc (Obj.cells #[.int .i64 0, .int .i64 0] 33)).cell? ⟨w.heap.size, 0, none⟩ = some (.slice ao N cap) := by go_cell
  have hb0 : Below w.heap.size w ((w.alloc (Obj.cells #[.slice ao N cap] 40)).alloc (Obj.cells #[.int .i64 0, .int .i64 0] 33)) := by go_grown
  have hsz : w.heap.size + 1 < ((w.alloc (Obj.cells #[.slice ao N cap] 40)).alloc (Obj.cells #[.int .i64 0, .int .i64 0] 33)).heap.size := by simp
  go_enter Try.func23, Try.ntmps23
  go_upto_region 1 with fail
  generalize ((w.alloc (Obj.cells #[.slice ao N cap] 40)).alloc (Obj.cells #[.int .i64 0, .int .i64 0] 33)) = W at *
  have HB0 := Lib.hid hb0
  have HSZ := Lib.hid hsz
  clear hb0
  refine wp_region_lit ?_
  refine wpList_step (fun K hK => ?_); go_simp; refine hK _ _ ?_; clear hK K
  refine wpList_step (fun K hK => ?_); go_simp
  refine (read_no N cap ao A l c F _ hN (HG.out.keep (HB0.out.mono (Nat.le_refl _))) HOK.out).mono ?_
  rintro e w1 ⟨rfl, hb⟩
  have hB1 : Below w.heap.size w w1 := HB0.out.trans (hb.mono HB0.out.size)
  have hg : w.heap.size + 1 < w1.heap.size := by have h1 := hb.size; have h2 := HSZ.out; omega
  refine hK _ _ ?_; clear hK K
  have HY1 := Lib.hid (HX1.out.keep hb)
  clear HX1
  clear hb hbx hsz HSZ HB0
  have HBK2 : Hid (Bkw (w1.alloc (Obj.cells #[.int .i64 0, .int .i64 0, .int .i64 0, .int .i64 0, .int .i64 0, .int .i64 0, .int .i64 0, .int .i64 0, .int .i64 0, .int .i64 0, .int .i64 0, .int .i64 0, .int .i64 0, .int .i64 0, .int .i64 0, .int .i64 0, .int .i64 0, .int .i64 0, .int .i64 0, .int .i64 0, .int .i64 0, .int .i64 0, .int .i64 0, .int .i64 0, .int .i64 0, .int .i64 0, .int .i64 0, .int .i64 0, .int .i64 0, .int .i64 0, .int .i64 0] 81)) w1.heap.size 0 (fun _ => 0) (fun _ => 0)) := Lib.hid (Bkw.fresh (by refine ⟨?_, ?_, ?_, ?_, ?_, ?_, ?_, ?_, ?_, ?_, ?_, ?_, ?_, ?_, ?_, ?_, ?_, ?_, ?_, ?_, ?_, ?_, ?_, ?_, ?_, ?_, ?_, ?_, ?_, ?_, ?_⟩ <;> go_cell) (by refine ⟨?_, ?_, ?_, ?_, ?_, ?_, ?_, ?_, ?_, ?_, ?_, ?_, ?_, ?_, ?_, ?_, ?_, ?_, ?_, ?_, ?_, ?_, ?_, ?_, ?_, ?_, ?_, ?_, ?_, ?_, ?_⟩ <;> go_cell))
  have hb2 : Below w1.heap.size w1 (w1.alloc (Obj.cells #[.int .i64 0, .int .i64 0, .int .i64 0, .int .i64 0, .int .i64 0, .int .i64 0, .int .i64 0, .int .i64 0, .int .i64 0, .int .i64 0, .int .i64 0, .int .i64 0, .int .i64 0, .int .i64 0, .int .i64 0, .int .i64 0, .int .i64 0, .int .i64 0, .int .i64 0, .int .i64 0, .int .i64 0, .int .i64 0, .int .i64 0, .int .i64 0, .int .i64 0, .int .i64 0, .int .i64 0, .int .i64 0, .int .i64 0, .int .i64 0, .int .i64 0] 81)) := (Below.refl _ _).alloc (Nat.le_refl _) _
  have hB2 : Below w.heap.size w (w1.alloc (Obj.cells #[.int .i64 0, .int .i64 0, .int .i64 0, .int .i64 0, .int .i64 0, .int .i64 0, .int .i64 0, .int .i64 0, .int .i64 0, .int .i64 0, .int .i64 0, .int .i64 0, .int .i64 0, .int .i64 0, .int .i64 0, .int .i64 0, .int .i64 0, .int .i64 0, .int .i64 0, .int .i64 0, .int .i64 0, .int .i64 0, .int .i64 0, .int .i64 0, .int .i64 0, .int .i64 0, .int .i64 0, .int .i64 0, .int .i64 0, .int .i64 0, .int .i64 0] 81)) := hB1.trans (hb2.mono hB1.size)
  refine wpList_step (fun K hK => ?_); go_simp; refine hK _ _ ?_; clear hK K
  refine wpList_step (fun K hK => ?_); go_simp; refine hK _ _ ?_; clear hK K
  refine wpList_step (fun K hK => ?_); go_simp; refine hK _ _ ?_; clear hK K
  refine wpList_step (fun K hK => ?_); go_simp; refine hK _ _ ?_; clear hK K
  generalize (w1.alloc (Obj.cells #[.int .i64 0, .int .i64 0, .int .i64 0, .int .i64 0, .int .i64 0, .int .i64 0, .int .i64 0, .int .i64 0, .int .i64 0, .int .i64 0, .int .i64 0, .int .i64 0, .int .i64 0, .int .i64 0, .int .i64 0, .int .i64 0, .int .i64 0, .int .i64 0, .int .i64 0, .int .i64 0, .int .i64 0, .int .i64 0, .int .i64 0, .int .i64 0, .int .i64 0, .int .i64 0, .int .i64 0, .int .i64 0, .int .i64 0, .int .i64 0, .int .i64 0] 81)) = W2 at *
  have HTH : Hid (W2.there w1.heap.size 0 (bkL 0 (fun _ => 0) (fun _ => 0)).toArray.size) := Lib.hid HBK2.out.there
  (refine wpList_store_mid rfl 81 _ _ rfl w1.heap.size 0 (bkL 0 (fun _ => 0) (fun _ => 0)).toArray rfl rfl HTH.out (infoBk 0 (fun _ => 0) (fun _ => 0)) (all_oneCell_toArray (bkL_one 0 (fun _ => 0) (fun _ => 0))) ?_)
  have HM3 : Hid (Bkw (W2.setCells w1.heap.size 0 (bkL 0 (fun _ => 0) (fun _ => 0)).toArray.toList) w1.heap.size 0 (fun _ => 0) (fun _ => 0)) := Lib.hid (by rw [List.toList_toArray]; exact HBK2.out.whole)
  have HB3 : Hid (Below w.heap.size w (W2.setCells w1.heap.size 0 (bkL 0 (fun _ => 0) (fun _ => 0)).toArray.toList)) := Lib.hid (below_setCells hB2 hB1.size _ _)
  have hb3 : Below w1.heap.size w1 (W2.setCells w1.heap.size 0 (bkL 0 (fun _ => 0) (fun _ => 0)).toArray.toList) := below_setCells hb2 (Nat.le_refl _) _ _
  generalize W2.setCells w1.heap.size 0 (bkL 0 (fun _ => 0) (fun _ => 0)).toArray.toList = W3 at *
  have hs3 : w1.heap.size < W3.heap.size := World.block_lt_of_cell? _ _ HM3.out.1.1
  have HX1 := Lib.hid (HY1.out.keep hb3)
  clear HY1
  clear HTH HBK2 hb2 hB2 hB1 hb3
  generalize w1.heap.size = g at *
  refine wpList_step (fun K hK => ?_); go_simp; refine hK _ _ ?_; clear hK K
  refine wpList_nil ?_
  obtain ⟨⟨e0, e1⟩, e2, e3⟩ : _ ∧ _ := ⟨HX1.out 0 (by omega), HX1.out 1 (by omega)⟩
  have hbl := HB3.out
  have n1 : w.heap.size + 1 < W3.heap.size := by omega
  clear HM3 HX1 HB3
  go_wp2_with fail
  refine bodyPost_ret (v := .tuple #[.agg #[.int .i64 0, .int .i64 0], .int .i64 60]) (by simp [results, Try.results23, go_sem, *]) rfl ⟨by rw [HE.out.1, HE.out.2], by go_grown⟩
set_option maxRecDepth 100000 in
set_option maxHeartbeats 8000000 in
theorem hSpread_ok (N cap : Nat) (ao : Option Addr) (A : Nat → Option Addr) (l c : Nat → Nat) (F : Nat → Nat → Int) (m dap : Nat) (bo : Option Addr) (p : Nat → Int) (x : Int) (w : World) (hN : N ≤ 9223372036854775807) (hR : Rowsw w ao N A l c F) (hok : okG N l F = true) (hm : m ≤ 9223372036854775807) (hI : Ints w bo m p) :
    Calls Try.prog 23 #[.agg #[.slice ao N cap], .slice bo m dap, .int .i64 x] w fun e w' => e = .returned (.tuple #[.agg #[.int .i64 (spV N l F m p x).1, .int .i64 (spV N l F m p x).2], .int .i64 (spE N l F m p x)]) ∧ Below w.heap.size w w' := by
  have HG := Lib.hid hR
  have HOK := Lib.hid hok
  clear hR hok
  have HI := Lib.hid hI
  clear hI
  obtain ⟨hNN, hF⟩ := okG_iff.1 HOK.out
  have hN5 := hNN.2
  have HF : Hid (∀ i, i < N → ∀ j, j < N → -200 ≤ F i j ∧ F i j ≤ 200) := Lib.hid (fun i hi => (hF i hi).2)
  have HNN := Lib.hid hNN
  clear hF hNN
  obtain ⟨bb, hbb⟩ : ∃ bb, inB m p N 0 1000 = bb := ⟨_, rfl⟩
  have HBB := Lib.hid hbb
  clear hbb
  have HX1 : Hid (Intw ((w.alloc (Obj.cells #[.slice ao N cap] 40)).alloc (Obj.cells #[.int .i64 0, .int .i64 0] 33)) (w.heap.size + 1) 2 (fun _ => 0)) := Lib.hid (fun j hj => by rcases (show j = 0 ∨ j = 1 by omega) with rfl | rfl <;> exact ⟨by go_cell, by go_cell⟩)
  have hbx : ((w.alloc (Obj.cells #[.slice ao N cap] 40)).alloc (Obj.cells #[.int .i64 0, .int .i64 0] 33)).cell? ⟨w.heap.size, 0, none⟩ = some (.slice ao N cap) := by go_cell
  have hb0 : Below w.heap.size w ((w.alloc (Obj.cells #[.slice ao N cap] 40)).alloc (Obj.cells #[.int .i64 0, .int .i64 0] 33)) := by go_grown
  have hsz : w.heap.size + 1 < ((w.alloc (Obj.cells #[.slice ao N cap] 40)).alloc (Obj.cells #[.int .i64 0, .int .i64 0] 33)).heap.size := by simp
  go_enter Try.func23, Try.ntmps23
  go_upto_region 1 with fail
  generalize ((w.alloc (Obj.cells #[.slice ao N cap] 40)).alloc (Obj.cells #[.int .i64 0, .int .i64 0] 33)) = W at *
  have HB0 := Lib.hid hb0
  have HSZ := Lib.hid hsz
  clear hb0
  refine wp_region_lit ?_
  refine wpList_step (fun K hK => ?_); go_simp; refine hK _ _ ?_; clear hK K
  refine wpList_step (fun K hK => ?_); go_simp
  refine (read_ok N cap ao A l c F _ hN (HG.out.keep (HB0.out.mono (Nat.le_refl _))) HOK.out).mono ?_
  rintro e w1 ⟨rfl, hb⟩
  have hB1 : Below w.heap.size w w1 := HB0.out.trans (hb.mono HB0.out.size)
  have hg : w.heap.size + 1 < w1.heap.size := by have h1 := hb.size; have h2 := HSZ.out; omega
  refine hK _ _ ?_; clear hK K
  have HY1 := Lib.hid (HX1.out.keep hb)
  clear HX1
  clear hb hbx hsz HSZ HB0
  have HBK2 : Hid (Bkw (w1.alloc (Obj.cells #[.int .i64 0, .int .i64 0, .int .i64 0, .int .i64 0, .int .i64 0, .int .i64 0, .int .i64 0, .int .i64 0, .int .i64 0, .int .i64 0, .int .i64 0, .int .i64 0, .int .i64 0, .int .i64 0, .int .i64 0, .int .i64 0, .int .i64 0, .int .i64 0, .int .i64 0, .int .i64 0, .int .i64 0, .int .i64 0, .int .i64 0, .int .i64 0, .int .i64 0, .int .i64 0, .int .i64 0, .int .i64 0, .int .i64 0, .int .i64 0, .int .i64 0] 81)) w1.heap.size 0 (fun _ => 0) (fun _ => 0)) := Lib.hid (Bkw.fresh (by refine ⟨?_, ?_, ?_, ?_, ?_, ?_, ?_, ?_, ?_, ?_, ?_, ?_, ?_, ?_, ?_, ?_, ?_, ?_, ?_, ?_, ?_, ?_, ?_, ?_, ?_, ?_, ?_, ?_, ?_, ?_, ?_⟩ <;> go_cell) (by refine ⟨?_, ?_, ?_, ?_, ?_, ?_, ?_, ?_, ?_, ?_, ?_, ?_, ?_, ?_, ?_, ?_, ?_, ?_, ?_, ?_, ?_, ?_, ?_, ?_, ?_, ?_, ?_, ?_, ?_, ?_, ?_⟩ <;> go_cell))
  have hb2 : Below w1.heap.size w1 (w1.alloc (Obj.cells #[.int .i64 0, .int .i64 0, .int .i64 0, .int .i64 0, .int .i64 0, .int .i64 0, .int .i64 0, .int .i64 0, .int .i64 0, .int .i64 0, .int .i64 0, .int .i64 0, .int .i64 0, .int .i64 0, .int .i64 0, .int .i64 0, .int .i64 0, .int .i64 0, .int .i64 0, .int .i64 0, .int .i64 0, .int .i64 0, .int .i64 0, .int .i64 0, .int .i64 0, .int .i64 0, .int .i64 0, .int .i64 0, .int .i64 0, .int .i64 0, .int .i64 0] 81)) := (Below.refl _ _).alloc (Nat.le_refl _) _
  have hB2 : Below w.heap.size w (w1.alloc (Obj.cells #[.int .i64 0, .int .i64 0, .int .i64 0, .int .i64 0, .int .i64 0, .int .i64 0, .int .i64 0, .int .i64 0, .int .i64 0, .int .i64 0, .int .i64 0, .int .i64 0, .int .i64 0, .int .i64 0, .int .i64 0, .int .i64 0, .int .i64 0, .int .i64 0, .int .i64 0, .int .i64 0, .int .i64 0, .int .i64 0, .int .i64 0, .int .i64 0, .int .i64 0, .int .i64 0, .int .i64 0, .int .i64 0, .int .i64 0, .int .i64 0, .int .i64 0] 81)) := hB1.trans (hb2.mono hB1.size)
  refine wpList_step (fun K hK => ?_); go_simp; refine hK _ _ ?_; clear hK K
  refine wpList_step (fun K hK => ?_); go_simp; refine hK _ _ ?_; clear hK K
  refine wpList_step (fun K hK => ?_); go_simp; refine hK _ _ ?_; clear hK K
  refine wpList_step (fun K hK => ?_); go_simp; refine hK _ _ ?_; clear hK K
  generalize (w1.alloc (Obj.cells #[.int .i64 0, .int .i64 0, .int .i64 0, .int .i64 0, .int .i64 0, .int .i64 0, .int .i64 0, .int .i64 0, .int .i64 0, .int .i64 0, .int .i64 0, .int .i64 0, .int .i64 0, .int .i64 0, .int .i64 0, .int .i64 0, .int .i64 0, .int .i64 0, .int .i64 0, .int .i64 0, .int .i64 0, .int .i64 0, .int .i64 0, .int .i64 0, .int .i64 0, .int .i64 0, .int .i64 0, .int .i64 0, .int .i64 0, .int .i64 0, .int .i64 0] 81)) = W2 at *
  have HTH : Hid (W2.there w1.heap.size 0 (bkL N (gnL N N F) (rhL N N 0 F)).toArray.size) := Lib.hid HBK2.out.there
  (refine wpList_store_mid rfl 81 _ _ rfl w1.heap.size 0 (bkL N (gnL N N F) (rhL N N 0 F)).toArray rfl rfl HTH.out (infoBk N (gnL N N F) (rhL N N 0 F)) (all_oneCell_toArray (bkL_one N (gnL N N F) (rhL N N 0 F))) ?_)
  have HM3 : Hid (Bkw (W2.setCells w1.heap.size 0 (bkL N (gnL N N F) (rhL N N 0 F)).toArray.toList) w1.heap.size N (gnL N N F) (rhL N N 0 F)) := Lib.hid (by rw [List.toList_toArray]; exact HBK2.out.whole)
  have HB3 : Hid (Below w.heap.size w (W2.setCells w1.heap.size 0 (bkL N (gnL N N F) (rhL N N 0 F)).toArray.toList)) := Lib.hid (below_setCells hB2 hB1.size _ _)
  have hb3 : Below w1.heap.size w1 (W2.setCells w1.heap.size 0 (bkL N (gnL N N F) (rhL N N 0 F)).toArray.toList) := below_setCells hb2 (Nat.le_refl _) _ _
  generalize W2.setCells w1.heap.size 0 (bkL N (gnL N N F) (rhL N N 0 F)).toArray.toList = W3 at *
  have hs3 : w1.heap.size < W3.heap.size := World.block_lt_of_cell? _ _ HM3.out.1.1
  have HX1 := Lib.hid (HY1.out.keep hb3)
  clear HY1
  clear HTH HBK2 hb2 hB2 hB1 hb3
  generalize w1.heap.size = g at *
  refine wpList_step (fun K hK => ?_); go_simp; refine hK _ _ ?_; clear hK K
  refine wpList_nil ?_
  obtain ⟨⟨e0, e1⟩, e2, e3⟩ : _ ∧ _ := ⟨HX1.out 0 (by omega), HX1.out 1 (by omega)⟩
  have hc0 := HM3.out.1.1
  have n1 : w.heap.size + 1 < W3.heap.size := by omega
  have hbl := HB3.out
  go_wp2_with fail
  refine (arePowers_any m dap bo p N _ hm (HI.out.keep (HB3.out.mono (Nat.le_refl _)))).mono ?_
  rw [HBB.out]
  rintro e w4 ⟨rfl, hb⟩
  have HM4 := Lib.hid (HM3.out.keep hb)
  have HB4 := Lib.hid (HB3.out.trans (hb.mono HB3.out.size))
  have HX4 := Lib.hid (HX1.out.keep hb)
  have hs4 : g < w4.heap.size := World.block_lt_of_cell? _ _ HM4.out.1.1
  clear hb hc0 HM3 HB3 hs3 HX1 e0 e1 e2 e3 n1 hbl
  obtain ⟨⟨e0, e1⟩, e2, e3⟩ : _ ∧ _ := ⟨HX4.out 0 (by omega), HX4.out 1 (by omega)⟩
  have hbl := HB4.out
  have n1 : w.heap.size + 1 < w4.heap.size := by omega
  have n2 : w.heap.size ≤ w4.heap.size := by omega
  cases bb with
  | false =>
    have HE : Hid (spV N l F m p x = (0, 0) ∧ spE N l F m p x = 2) := Lib.hid (sp_arg HOK.out (by rw [HBB.out]; rfl))
    clear HM4 HB4 HX4
    go_wp2_with fail
    refine bodyPost_ret (v := .tuple #[.agg #[.int .i64 0, .int .i64 0], .int .i64 2]) (by simp [results, Try.results23, go_sem, *]) rfl ⟨by rw [HE.out.1, HE.out.2], by go_grown⟩
  | true =>
    by_cases x1 : x < 0
    · have HE : Hid (spV N l F m p x = (0, 0) ∧ spE N l F m p x = 2) := Lib.hid (sp_arg HOK.out (by rw [HBB.out, decide_eq_false (show ¬ 0 ≤ x by omega)]; rfl))
      clear HM4 HB4 HX4
      go_wp2_with fail
      refine bodyPost_ret (v := .tuple #[.agg #[.int .i64 0, .int .i64 0], .int .i64 2]) (by simp [results, Try.results23, go_sem, *]) rfl ⟨by rw [HE.out.1, HE.out.2], by go_grown⟩
    by_cases x2 : 1000 < x
    · have HE : Hid (spV N l F m p x = (0, 0) ∧ spE N l F m p x = 2) := Lib.hid (sp_arg HOK.out (by rw [HBB.out, decide_eq_false (show ¬ x ≤ 1000 by omega), Bool.and_false]; rfl))
      clear HM4 HB4 HX4
      go_wp2_with fail
      refine bodyPost_ret (v := .tuple #[.agg #[.int .i64 0, .int .i64 0], .int .i64 2]) (by simp [results, Try.results23, go_sem, *]) rfl ⟨by rw [HE.out.1, HE.out.2], by go_grown⟩
    have HE : Hid (spV N l F m p x = (spA N F p x N, spB N F p x N) ∧ spE N l F m p x = 0) := Lib.hid (sp_ok HOK.out (by rw [HBB.out, decide_eq_true (show 0 ≤ x by omega), decide_eq_true (show x ≤ 1000 by omega)]; rfl))
    have hmN : N = m := by have := (inB_iff.1 HBB.out).1; omega
    subst hmN
    have HP : Hid (∀ k, k < N → 0 ≤ p k ∧ p k ≤ 1000) := Lib.hid (fun k hk => (inB_iff.1 HBB.out).2 k hk)
    have hx01 : 0 ≤ x ∧ x ≤ 1000 := ⟨by omega, by omega⟩
    have wx1 : wrap64 (1000 - x) = 1000 - x := by simp only [wrap64]; omega
    have wx2 : wrap64 (1000 + x) = 1000 + x := by simp only [wrap64]; omega
    have HXX := Lib.hid hx01
    clear hx01
    have hbA : Below w4.heap.size w4 (w4.alloc (Obj.cells #[.int .i64 0, .int .i64 0] 33)) := (Below.refl _ _).alloc (Nat.le_refl _) _
    have HM5 := Lib.hid (HM4.out.keep hbA)
    have HX5 := Lib.hid (HX4.out.keep hbA)
    have HB5 := Lib.hid (HB4.out.trans (hbA.mono HB4.out.size))
    have HE5 : Hid (Intw (w4.alloc (Obj.cells #[.int .i64 0, .int .i64 0] 33)) w4.heap.size 2 (fun _ => 0)) := Lib.hid (fun j hj => by rcases (show j = 0 ∨ j = 1 by omega) with rfl | rfl <;> exact ⟨by go_cell, by go_cell⟩)
    have hs5 : w4.heap.size < (w4.alloc (Obj.cells #[.int .i64 0, .int .i64 0] 33)).heap.size := by simp
    clear hbA HM4 HX4 HB4 e0 e1 e2 e3 hbl
    go_upto_region 7 with fail
    generalize (w4.alloc (Obj.cells #[.int .i64 0, .int .i64 0] 33)) = W5 at *
    generalize w4.heap.size = h at *
    go_wp2_with fail
    go_loopw [42] (fun iv wr => ∃ (z : Int) (k : Nat), iv = .int .i64 z ∧ z = k ∧ k ≤ N ∧ Hid (Bkw wr g N (gnL N N F) (rhL N N 0 F)) ∧ Hid (Intw wr (w.heap.size + 1) 2 (fun _ => 0)) ∧ Hid (Intw wr h 2 (fun j => if j = 0 then spA N F p x k else spB N F p x k)) ∧ Hid (Below w.heap.size w wr) ∧ h < wr.heap.size) (fun iv _ => N - (intOf iv).toNat)
    case atStart => exact ⟨0, 0, rfl, by omega, by omega, HM5, HX5, Lib.hid (HE5.out.congr fun j _ => by unfold spA spB; split <;> rfl), HB5, hs5⟩
    case round =>
      obtain ⟨z, k, rfl, hz, hk, HM, HX, HEN, HB, hsw⟩ := hrel
      by_cases hlt : k < N
      · have hlt' : z < (N : Int) := by omega
        subst hz
        have k0 : (0 : Int) ≤ (k : Int) := by omega
        have wz : wrap64 ((k : Int) + 1) = (k : Int) + 1 := by simp only [wrap64]; omega
        obtain ⟨b, o, rfl, hcell⟩ := (HI.out.keep HB.out) (Nat.zero_lt_of_lt hlt)
        have g0 := hcell k hlt
        clear hcell HM5 HX5 HE5 HB5 hs5
        have HRG := Lib.hid HM.out.1.range
        have hbd := spL_bd (x := x) hN5 HF.out hlt (HP.out k hlt) HXX.out
        have hbs := spA_bd hN5 HF.out HP.out HXX.out k hk
        have hcb := colS_bd hN5 HF.out hlt
        obtain ⟨q, hq⟩ : ∃ q, p k = q := ⟨_, rfl⟩
        obtain ⟨cs, hcs⟩ : ∃ cs, colS N F k = cs := ⟨_, rfl⟩
        obtain ⟨lo, hlo⟩ : ∃ lo, spL N F p x k = lo := ⟨_, rfl⟩
        obtain ⟨hi, hhi⟩ : ∃ hi, spH N F p x k = hi := ⟨_, rfl⟩
        obtain ⟨sa, hsa⟩ : ∃ sa, spA N F p x k = sa := ⟨_, rfl⟩
        obtain ⟨sb, hsb⟩ : ∃ sb, spB N F p x k = sb := ⟨_, rfl⟩
        have hlo2 : cs * q * (1000 - x) = lo := by rw [← hlo, ← hcs, ← hq]; rfl
        have hhi2 : cs * q * (1000 + x) = hi := by rw [← hhi, ← hcs, ← hq]; rfl
        have HSA : Hid (spA N F p x (k + 1) = sa + min lo hi ∧ spB N F p x (k + 1) = sb + max lo hi) := Lib.hid (by rw [← hsa, ← hsb, ← hlo, ← hhi]; exact ⟨rfl, rfl⟩)
        rw [hq] at g0 hbd
        rw [hcs] at hbd hcb
        rw [hlo, hhi] at hbd
        rw [hsa, hsb] at hbs
        have HCS := Lib.hid hcs
        have v1 : wrap64 (cs * q) = cs * q := by simp only [wrap64]; omega
        have v2 : wrap64 (cs * q * (1000 - x)) = lo := by rw [hlo2]; simp only [wrap64]; omega
        have v3 : wrap64 (cs * q * (1000 + x)) = hi := by rw [hhi2]; simp only [wrap64]; omega
        have v4 : wrap64 (sa + lo) = sa + lo := by simp only [wrap64]; omega
        have v5 : wrap64 (sa + hi) = sa + hi := by simp only [wrap64]; omega
        have v6 : wrap64 (sb + lo) = sb + lo := by simp only [wrap64]; omega
        have v7 : wrap64 (sb + hi) = sb + hi := by simp only [wrap64]; omega
        have HE2 : Hid (Intw wr h 2 (fun j => if j = 0 then sa else sb)) := by rw [hsa, hsb] at HEN; exact HEN
        clear hbd hbs hcb hq hcs hlo hhi hsa hsb HEN hlo2 hhi2
        go_upto_region 10 with fail
        refine wp_region_lit ?_
        refine wpList_step (fun K hK => ?_); go_simp; refine hK _ _ ?_; clear hK K
        (refine wpList_load_mid rfl 79 _ rfl g 0 rfl (sqL N (gnL N N F)) _ HRG.out Try.underlying79 rfl (infoSq N (gnL N N F)) ?_)
        refine wpList_step (fun K hK => ?_); go_simp; refine hK _ _ ?_; clear hK K
        refine wpList_step (fun K hK => ?_); go_simp
        refine (column_any N k (gnL N N F) _ hN5 (by omega)).mono ?_
        rintro e w6 ⟨rfl, hb⟩
        have D6 : Below wr.heap.size wr w6 := hb
        clear hb
        refine hK _ _ ?_; clear hK K
        refine wpList_step (fun K hK => ?_); go_simp
        have hcolv : ∀ j, (colL N k (gnL N N F) j).natAbs ≤ 1000000000000000 := fun j => by
          unfold colL
          split
          · rename_i hj
            have h5 : (j * 5 + k) / 5 = j ∧ (j * 5 + k) % 5 = k := by omega
            unfold gnL
            rw [h5.1, h5.2, if_pos ⟨hj, hlt⟩]
            have := HF.out j hj k hlt
            omega
          · decide
        refine (listSum_any _ _ _ _ _ _ (hcolv 0) (hcolv 1) (hcolv 2) (hcolv 3) (hcolv 4)).mono ?_
        rintro e w7 ⟨rfl, hb⟩
        have hcolp : ∀ j, colL N k (gnL N N F) j = padI N (fun i => F i k) j := fun j => by
          unfold colL padI
          by_cases hj : j < N
          · have h5 : (j * 5 + k) / 5 = j ∧ (j * 5 + k) % 5 = k := by omega
            rw [if_pos hj, if_pos hj]
            unfold gnL
            rw [h5.1, h5.2, if_pos ⟨hj, hlt⟩]
          · rw [if_neg hj, if_neg hj]
        rw [hcolp, hcolp, hcolp, hcolp, hcolp, pad_sum _ hN5, show sumI (fun i => F i k) N = cs from HCS.out]
        have D7 : Below wr.heap.size wr w7 := D6.trans (hb.mono D6.size)
        clear hb D6 hcolv hcolp
        refine hK _ _ ?_; clear hK K
        refine wpList_step (fun K hK => ?_); go_simp; refine hK _ _ ?_; clear hK K
        refine wpList_nil ?_
        have HM7 := Lib.hid (HM.out.keep D7)
        have HX7 := Lib.hid (HX.out.keep D7)
        have HE7 := Lib.hid (HE2.out.keep D7)
        have HB7 := Lib.hid (HB.out.trans (D7.mono HB.out.size))
        have hs7 : h < w7.heap.size := by have := D7.size; omega
        clear D7 HM HX HE2 HB hsw HRG g0
        obtain ⟨⟨a0, a1⟩, ⟨b0, b1⟩⟩ : _ ∧ _ := ⟨HE7.out 0 (by omega), HE7.out 1 (by omega)⟩
        replace a0 : w7.cell? ⟨h, 0, none⟩ = some (.int .i64 sa) := a0
        replace b0 : w7.cell? ⟨h, 1, none⟩ = some (.int .i64 sb) := b0
        by_cases hlh : lo < hi
        · have hm1 : min lo hi = lo := by omega
          have hm2 : max lo hi = hi := by omega
          have hl1 : ¬ hi ≤ lo := by omega
          have hl2 : ¬ hi < lo := by omega
          have hl3 : lo ≤ hi := by omega
          have HEn : Hid (Intw ((w7.setCell ⟨h, 0, none⟩ (.int .i64 (sa + lo))).setCell ⟨h, 1, none⟩ (.int .i64 (sb + hi))) h 2 (fun j => if j = 0 then spA N F p x (k + 1) else spB N F p x (k + 1))) := Lib.hid (((HE7.out.store (j := 0) (by omega) (sa + lo)).store (j := 1) (by omega) (sb + hi)).congr fun j hj => by
            rcases (show j = 0 ∨ j = 1 by omega) with rfl | rfl
            · rw [if_pos rfl, HSA.out.1, hm1]; rfl
            · rw [if_neg (by decide), HSA.out.2, hm2]; rfl)
          have HMn := Lib.hid ((HM7.out.other (m := h) (o := 0) (v := .int .i64 (sa + lo)) (by omega)).other (m := h) (o := 1) (v := .int .i64 (sb + hi)) (by omega))
          have HXn := Lib.hid ((HX7.out.other (m := h) (k := 0) (v := .int .i64 (sa + lo)) (by omega)).other (m := h) (k := 1) (v := .int .i64 (sb + hi)) (by omega))
          have HBn := Lib.hid ((HB7.out.setCell (p := ⟨h, 0, none⟩) (by simp only; omega) (.int .i64 (sa + lo))).setCell (p := ⟨h, 1, none⟩) (by simp only; omega) (.int .i64 (sb + hi)))
          have hsn : h < ((w7.setCell ⟨h, 0, none⟩ (.int .i64 (sa + lo))).setCell ⟨h, 1, none⟩ (.int .i64 (sb + hi))).heap.size := by simpa using hs7
          clear HM7 HX7 HE7 HB7 hm1 hm2 HSA
          go_wp2_with fail
          go_roundw
          case rel => exact ⟨(k : Int) + 1, k + 1, by first | rfl | rw [wz], by omega, by omega, HMn, HXn, HEn, HBn, hsn⟩
          case measure => first | (simp [intOf]; done) | (simp [intOf]; omega)
        by_cases hlh2 : hi < lo
        · have hm1 : min lo hi = hi := by omega
          have hm2 : max lo hi = lo := by omega
          have hl3 : hi ≤ lo := by omega
          have HEn : Hid (Intw ((w7.setCell ⟨h, 0, none⟩ (.int .i64 (sa + hi))).setCell ⟨h, 1, none⟩ (.int .i64 (sb + lo))) h 2 (fun j => if j = 0 then spA N F p x (k + 1) else spB N F p x (k + 1))) := Lib.hid (((HE7.out.store (j := 0) (by omega) (sa + hi)).store (j := 1) (by omega) (sb + lo)).congr fun j hj => by
            rcases (show j = 0 ∨ j = 1 by omega) with rfl | rfl
            · rw [if_pos rfl, HSA.out.1, hm1]; rfl
            · rw [if_neg (by decide), HSA.out.2, hm2]; rfl)
          have HMn := Lib.hid ((HM7.out.other (m := h) (o := 0) (v := .int .i64 (sa + hi)) (by omega)).other (m := h) (o := 1) (v := .int .i64 (sb + lo)) (by omega))
          have HXn := Lib.hid ((HX7.out.other (m := h) (k := 0) (v := .int .i64 (sa + hi)) (by omega)).other (m := h) (k := 1) (v := .int .i64 (sb + lo)) (by omega))
          have HBn := Lib.hid ((HB7.out.setCell (p := ⟨h, 0, none⟩) (by simp only; omega) (.int .i64 (sa + hi))).setCell (p := ⟨h, 1, none⟩) (by simp only; omega) (.int .i64 (sb + lo)))
          have hsn : h < ((w7.setCell ⟨h, 0, none⟩ (.int .i64 (sa + hi))).setCell ⟨h, 1, none⟩ (.int .i64 (sb + lo))).heap.size := by simpa using hs7
          clear HM7 HX7 HE7 HB7 hm1 hm2 HSA
          go_wp2_with fail
          go_roundw
          case rel => exact ⟨(k : Int) + 1, k + 1, by first | rfl | rw [wz], by omega, by omega, HMn, HXn, HEn, HBn, hsn⟩
          case measure => first | (simp [intOf]; done) | (simp [intOf]; omega)
        · obtain rfl : lo = hi := by omega
          have hm1 : min lo lo = lo := by omega
          have hm2 : max lo lo = lo := by omega
          have hl3 : lo ≤ lo := by omega
          have HEn : Hid (Intw ((w7.setCell ⟨h, 0, none⟩ (.int .i64 (sa + lo))).setCell ⟨h, 1, none⟩ (.int .i64 (sb + lo))) h 2 (fun j => if j = 0 then spA N F p x (k + 1) else spB N F p x (k + 1))) := Lib.hid (((HE7.out.store (j := 0) (by omega) (sa + lo)).store (j := 1) (by omega) (sb + lo)).congr fun j hj => by
            rcases (show j = 0 ∨ j = 1 by omega) with rfl | rfl
            · rw [if_pos rfl, HSA.out.1, hm1]; rfl
            · rw [if_neg (by decide), HSA.out.2, hm2]; rfl)
          have HMn := Lib.hid ((HM7.out.other (m := h) (o := 0) (v := .int .i64 (sa + lo)) (by omega)).other (m := h) (o := 1) (v := .int .i64 (sb + lo)) (by omega))
          have HXn := Lib.hid ((HX7.out.other (m := h) (k := 0) (v := .int .i64 (sa + lo)) (by omega)).other (m := h) (k := 1) (v := .int .i64 (sb + lo)) (by omega))
          have HBn := Lib.hid ((HB7.out.setCell (p := ⟨h, 0, none⟩) (by simp only; omega) (.int .i64 (sa + lo))).setCell (p := ⟨h, 1, none⟩) (by simp only; omega) (.int .i64 (sb + lo)))
          have hsn : h < ((w7.setCell ⟨h, 0, none⟩ (.int .i64 (sa + lo))).setCell ⟨h, 1, none⟩ (.int .i64 (sb + lo))).heap.size := by simpa using hs7
          clear HM7 HX7 HE7 HB7 hm1 hm2 HSA
          go_wp2_with fail
          go_roundw
          case rel => exact ⟨(k : Int) + 1, k + 1, by first | rfl | rw [wz], by omega, by omega, HMn, HXn, HEn, HBn, hsn⟩
          case measure => first | (simp [intOf]; done) | (simp [intOf]; omega)
      · obtain rfl : k = N := by omega
        obtain ⟨⟨a0, a1⟩, ⟨b0, b1⟩⟩ : _ ∧ _ := ⟨HEN.out 0 (by omega), HEN.out 1 (by omega)⟩
        obtain ⟨⟨e0, e1⟩, e2, e3⟩ : _ ∧ _ := ⟨HX.out 0 (by omega), HX.out 1 (by omega)⟩
        replace a0 : wr.cell? ⟨h, 0, none⟩ = some (.int .i64 (spA k F p x k)) := a0
        replace b0 : wr.cell? ⟨h, 1, none⟩ = some (.int .i64 (spB k F p x k)) := b0
        obtain ⟨sa, hsa⟩ : ∃ sa, spA k F p x k = sa := ⟨_, rfl⟩
        obtain ⟨sb, hsb⟩ : ∃ sb, spB k F p x k = sb := ⟨_, rfl⟩
        rw [hsa] at a0
        rw [hsb] at b0
        rw [hsa, hsb] at HE
        have hbl := HB.out
        have n3 : w.heap.size + 1 < wr.heap.size := by omega
        clear HM HX HEN HB HM5 HX5 HE5 HB5 hs5 hsa hsb
        go_wp2_with fail
        refine bodyPost_ret (v := .tuple #[.agg #[.int .i64 sa, .int .i64 sb], .int .i64 0]) (by simp [results, Try.results23, go_sem, *]) rfl ⟨by rw [HE.out.1, HE.out.2], by go_grown⟩
end Go.Proofs.Ytdhlikedjephmaa
