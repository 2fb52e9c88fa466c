import Derived.Test.YtdhlikedjephmaaFo6
import Derived.Test.YtdhlikedjephmaaRb6
namespace Heat
/-- What n heaters do to guide i. -/
def heT (F : Nat → Nat → Int) (p : Nat → Int) (i : Nat) : Nat → Int
  | 0 => 0
  | j + 1 => heT F p i j + F i j * p j
theorem timT_he {N : Nat} {F : Nat → Nat → Int} {p : Nat → Int} {i : Nat} (hi : i < N) (hN : N ≤ 5) : ∀ j, j ≤ N → timT (gnL N N F) (padI N p) i j = heT F p i j
  | 0, _ => rfl
  | j + 1, h => by
    have h5 : (i * 5 + j) / 5 = i ∧ (i * 5 + j) % 5 = j := by omega
    have hg : gnL N N F (i * 5 + j) = F i j := by unfold gnL; rw [h5.1, h5.2, if_pos ⟨hi, by omega⟩]
    have hp : padI N p j = p j := by unfold padI; rw [if_pos (by omega)]
    unfold timT heT
    rw [timT_he hi hN j (by omega), hg, hp]
theorem timL_he {N : Nat} {F : Nat → Nat → Int} {p : Nat → Int} {i : Nat} (hi : i < N) (hN : N ≤ 5) : timL N (gnL N N F) (padI N p) N 0 i = heT F p i N := by
  unfold timL
  rw [if_pos hi, timT_he hi hN N (Nat.le_refl _)]
theorem he_bd {F : Nat → Nat → Int} {p : Nat → Int} {i : Nat} : ∀ {n : Nat}, (∀ j, j < n → -200 ≤ F i j ∧ F i j ≤ 200) → (∀ j, j < n → 0 ≤ p j ∧ p j ≤ 1000) → (heT F p i n).natAbs ≤ 200000 * n
  | 0, _, _ => by unfold heT; decide
  | n + 1, h, hp => by
    have h1 := he_bd (n := n) (fun j hj => h j (by omega)) (fun j hj => hp j (by omega))
    have h2 := mul_bd (h n (by omega)) (hp n (by omega)) (by omega)
    unfold heT
    omega
theorem gnp_bd {N : Nat} {F : Nat → Nat → Int} {p : Nat → Int} (hF : ∀ i, i < N → ∀ j, j < N → -200 ≤ F i j ∧ F i j ≤ 200) (hp : ∀ j, j < N → 0 ≤ p j ∧ p j ≤ 1000) : ∀ i, i < N → ∀ k, k < N → (gnL N N F (i * 5 + k) * padI N p k).natAbs ≤ 1000000000000 := by
  intro i hi k hk
  have hp1 : padI N p k = p k := by unfold padI; rw [if_pos hk]
  have hg : (-200 : Int) ≤ gnL N N F (i * 5 + k) ∧ gnL N N F (i * 5 + k) ≤ 200 := by
    unfold gnL
    split
    · rename_i h; exact hF _ h.1 _ h.2
    · omega
  rw [hp1]
  have := mul_bd hg (hp k hk) (by omega)
  omega
def lsE (N : Nat) (l : Nat → Nat) (F : Nat → Nat → Int) (m : Nat) (B : Nat → Int) (k : Nat) (C : Nat → Int) : Int := if okG N l F = true then (if (inB m B N (-1000000) 1000000 && inB k C N 0 1000) = true then 0 else 2) else 60
theorem ls_no {N : Nat} {l : Nat → Nat} {F : Nat → Nat → Int} {m : Nat} {B : Nat → Int} {k : Nat} {C : Nat → Int} (h : okG N l F = false) : lsE N l F m B k C = 60 := by unfold lsE; rw [h]; rfl
theorem ls_arg {N : Nat} {l : Nat → Nat} {F : Nat → Nat → Int} {m : Nat} {B : Nat → Int} {k : Nat} {C : Nat → Int} (h : okG N l F = true) (h2 : (inB m B N (-1000000) 1000000 && inB k C N 0 1000) = false) : lsE N l F m B k C = 2 := by unfold lsE; rw [h, h2]; rfl
theorem ls_ok {N : Nat} {l : Nat → Nat} {F : Nat → Nat → Int} {m : Nat} {B : Nat → Int} {k : Nat} {C : Nat → Int} (h : okG N l F = true) (h2 : (inB m B N (-1000000) 1000000 && inB k C N 0 1000) = true) : lsE N l F m B k C = 0 := by unfold lsE; rw [h, h2]; rfl
/-- The phase of guide i. -/
def phL (N : Nat) (F : Nat → Nat → Int) (B C : Nat → Int) (i : Nat) : Int := (B i + heT F C i N) % 1000000
/-- By how much guide i is off. -/
def ofL (N : Nat) (F : Nat → Nat → Int) (B C : Nat → Int) (i : Nat) : Int := heT F C i N - B i
theorem rem_turn (x : Int) : (x.tmod 1000000 + 1000000).tmod 1000000 = x % 1000000 := by
  have h1 : x.tmod 1000000 = x - 1000000 * x.tdiv 1000000 := by have := Int.mul_tdiv_add_tmod x 1000000; omega
  have h2 : -1000000 < x.tmod 1000000 := by
    have := Int.lt_tmod_of_pos x (show (0 : Int) < 1000000 by decide); omega
  rw [Int.tmod_eq_emod_of_nonneg (by omega), h1]
  omega
end Heat
namespace Go.Proofs.Ytdhlikedjephmaa
open Go.RowKit Heat
/-- What comes back: a list of N numbers, or an error. -/
def LsR (w : World) (e : Ending) (N : Nat) (l : Nat → Nat) (F : Nat → Nat → Int) (m : Nat) (B : Nat → Int) (k : Nat) (C f : Nat → Int) : Prop :=
  ∃ ao cap, e = .returned (.tuple #[.slice ao (if lsE N l F m B k C = 0 then N else 0) cap, .int .i64 (lsE N l F m B k C)]) ∧ Ints w ao (if lsE N l F m B k C = 0 then N else 0) f
theorem lsR_no {w : World} {N : Nat} {l : Nat → Nat} {F : Nat → Nat → Int} {m : Nat} {B : Nat → Int} {k : Nat} {C f : Nat → Int} {x : Int} (h : lsE N l F m B k C = x) (h0 : x ≠ 0) : LsR w (.returned (.tuple #[.slice none 0 0, .int .i64 x])) N l F m B k C f := by
  unfold LsR
  rw [h, if_neg h0]
  exact ⟨none, 0, rfl, fun h => absurd h (by omega)⟩
theorem lsR_ok {w : World} {N g cap : Nat} {l : Nat → Nat} {F : Nat → Nat → Int} {m : Nat} {B : Nat → Int} {k : Nat} {C f : Nat → Int} (h : lsE N l F m B k C = 0) (hw : Intw w g N f) : LsR w (.returned (.tuple #[.slice (some ⟨g, 0, none⟩) N cap, .int .i64 0])) N l F m B k C f := by
  unfold LsR
  rw [h, if_pos rfl]
  exact ⟨_, cap, rfl, hw.ints⟩
set_option maxRecDepth 100000 in
set_option maxHeartbeats 8000000 in
theorem hPhases_no (N cap : Nat) (ao : Option Addr) (A : Nat → Option Addr) (l c : Nat → Nat) (F : Nat → Nat → Int) (m dap : Nat) (bo : Option Addr) (B : Nat → Int) (k fap : Nat) (co : Option Addr) (C : Nat → Int) (w : World) (hN : N ≤ 9223372036854775807) (hR : Rowsw w ao N A l c F) (hok : okG N l F = false) :
    Calls Try.prog 33 #[.agg #[.slice ao N cap], .slice bo m dap, .slice co k fap] w fun e w' => LsR w' e N l F m B k C (phL N F B C) ∧ Below w.heap.size w w' := by
  have HG := Lib.hid hR
  have HOK := Lib.hid hok
  clear hR hok
  have HE : Hid (lsE N l F m B k C = 60) := Lib.hid (ls_no HOK.out)
  have hbx : (w.alloc (Obj.cells #[.slice ao N cap] 40)).cell? ⟨w.heap.size, 0, none⟩ = some (.slice ao N cap) := by go_cell
  have hb0 : Below w.heap.size w (w.alloc (Obj.cells #[.slice ao N cap] 40)) := by go_grown
  have hsz : w.heap.size < (w.alloc (Obj.cells #[.slice ao N cap] 40)).heap.size := by simp
  go_enter Try.func33, Try.ntmps33
  go_upto_region 1 with fail
  generalize (w.alloc (Obj.cells #[.slice ao N cap] 40)) = W at *
  have HB0 := Lib.hid hb0
  have HSZ := Lib.hid hsz
  clear hb0
  refine wp_region_lit ?_
  refine wpList_step (fun K hK => ?_); go_simp; refine hK _ _ ?_; clear hK K
  refine wpList_step (fun K hK => ?_); go_simp
  refine (read_no N cap ao A l c F _ hN (HG.out.keep (HB0.out.mono (Nat.le_refl _))) HOK.out).mono ?_
  rintro e w1 ⟨rfl, hb⟩
  have hB1 : Below w.heap.size w w1 := HB0.out.trans (hb.mono HB0.out.size)
  have hg : w.heap.size < w1.heap.size := by have h1 := hb.size; have h2 := HSZ.out; omega
  refine hK _ _ ?_; clear hK K
  clear hb hbx hsz HSZ HB0
  have HBK2 : Hid (Bkw (w1.alloc (Obj.cells #[.int .i64 0, .int .i64 0, .int .i64 0, .int .i64 0, .int .i64 0, .int .i64 0, .int .i64 0, .int .i64 0, .int .i64 0, .int .i64 0, .int .i64 0, .int .i64 0, .int .i64 0, .int .i64 0, .int .i64 0, .int .i64 0, .int .i64 0, .int .i64 0, .int .i64 0, .int .i64 0, .int .i64 0, .int .i64 0, .int .i64 0, .int .i64 0, .int .i64 0, .int .i64 0, .int .i64 0, .int .i64 0, .int .i64 0, .int .i64 0, .int .i64 0] 81)) w1.heap.size 0 (fun _ => 0) (fun _ => 0)) := Lib.hid (Bkw.fresh (by refine ⟨?_, ?_, ?_, ?_, ?_, ?_, ?_, ?_, ?_, ?_, ?_, ?_, ?_, ?_, ?_, ?_, ?_, ?_, ?_, ?_, ?_, ?_, ?_, ?_, ?_, ?_, ?_, ?_, ?_, ?_, ?_⟩ <;> go_cell) (by refine ⟨?_, ?_, ?_, ?_, ?_, ?_, ?_, ?_, ?_, ?_, ?_, ?_, ?_, ?_, ?_, ?_, ?_, ?_, ?_, ?_, ?_, ?_, ?_, ?_, ?_, ?_, ?_, ?_, ?_, ?_, ?_⟩ <;> go_cell))
  have hb2 : Below w1.heap.size w1 (w1.alloc (Obj.cells #[.int .i64 0, .int .i64 0, .int .i64 0, .int .i64 0, .int .i64 0, .int .i64 0, .int .i64 0, .int .i64 0, .int .i64 0, .int .i64 0, .int .i64 0, .int .i64 0, .int .i64 0, .int .i64 0, .int .i64 0, .int .i64 0, .int .i64 0, .int .i64 0, .int .i64 0, .int .i64 0, .int .i64 0, .int .i64 0, .int .i64 0, .int .i64 0, .int .i64 0, .int .i64 0, .int .i64 0, .int .i64 0, .int .i64 0, .int .i64 0, .int .i64 0] 81)) := (Below.refl _ _).alloc (Nat.le_refl _) _
  have hB2 : Below w.heap.size w (w1.alloc (Obj.cells #[.int .i64 0, .int .i64 0, .int .i64 0, .int .i64 0, .int .i64 0, .int .i64 0, .int .i64 0, .int .i64 0, .int .i64 0, .int .i64 0, .int .i64 0, .int .i64 0, .int .i64 0, .int .i64 0, .int .i64 0, .int .i64 0, .int .i64 0, .int .i64 0, .int .i64 0, .int .i64 0, .int .i64 0, .int .i64 0, .int .i64 0, .int .i64 0, .int .i64 0, .int .i64 0, .int .i64 0, .int .i64 0, .int .i64 0, .int .i64 0, .int .i64 0] 81)) := hB1.trans (hb2.mono hB1.size)
  refine wpList_step (fun K hK => ?_); go_simp; refine hK _ _ ?_; clear hK K
  refine wpList_step (fun K hK => ?_); go_simp; refine hK _ _ ?_; clear hK K
  refine wpList_step (fun K hK => ?_); go_simp; refine hK _ _ ?_; clear hK K
  refine wpList_step (fun K hK => ?_); go_simp; refine hK _ _ ?_; clear hK K
  generalize (w1.alloc (Obj.cells #[.int .i64 0, .int .i64 0, .int .i64 0, .int .i64 0, .int .i64 0, .int .i64 0, .int .i64 0, .int .i64 0, .int .i64 0, .int .i64 0, .int .i64 0, .int .i64 0, .int .i64 0, .int .i64 0, .int .i64 0, .int .i64 0, .int .i64 0, .int .i64 0, .int .i64 0, .int .i64 0, .int .i64 0, .int .i64 0, .int .i64 0, .int .i64 0, .int .i64 0, .int .i64 0, .int .i64 0, .int .i64 0, .int .i64 0, .int .i64 0, .int .i64 0] 81)) = W2 at *
  have HTH : Hid (W2.there w1.heap.size 0 (bkL 0 (fun _ => 0) (fun _ => 0)).toArray.size) := Lib.hid HBK2.out.there
  (refine wpList_store_mid rfl 81 _ _ rfl w1.heap.size 0 (bkL 0 (fun _ => 0) (fun _ => 0)).toArray rfl rfl HTH.out (infoBk 0 (fun _ => 0) (fun _ => 0)) (all_oneCell_toArray (bkL_one 0 (fun _ => 0) (fun _ => 0))) ?_)
  have HM3 : Hid (Bkw (W2.setCells w1.heap.size 0 (bkL 0 (fun _ => 0) (fun _ => 0)).toArray.toList) w1.heap.size 0 (fun _ => 0) (fun _ => 0)) := Lib.hid (by rw [List.toList_toArray]; exact HBK2.out.whole)
  have HB3 : Hid (Below w.heap.size w (W2.setCells w1.heap.size 0 (bkL 0 (fun _ => 0) (fun _ => 0)).toArray.toList)) := Lib.hid (below_setCells hB2 hB1.size _ _)
  generalize W2.setCells w1.heap.size 0 (bkL 0 (fun _ => 0) (fun _ => 0)).toArray.toList = W3 at *
  have hs3 : w1.heap.size < W3.heap.size := World.block_lt_of_cell? _ _ HM3.out.1.1
  clear HTH HBK2 hb2 hB2 hB1
  generalize w1.heap.size = g at *
  refine wpList_step (fun K hK => ?_); go_simp; refine hK _ _ ?_; clear hK K
  refine wpList_nil ?_
  have hbl := HB3.out
  clear HM3 HB3
  go_wp2_with fail
  refine bodyPost_ret (v := .tuple #[.slice none 0 0, .int .i64 60]) (by simp [results, Try.results33, go_sem, *]) rfl ⟨lsR_no HE.out (by decide), by go_grown⟩
set_option maxRecDepth 100000 in
set_option maxHeartbeats 8000000 in
theorem hOff_no (N cap : Nat) (ao : Option Addr) (A : Nat → Option Addr) (l c : Nat → Nat) (F : Nat → Nat → Int) (m dap : Nat) (bo : Option Addr) (B : Nat → Int) (k fap : Nat) (co : Option Addr) (C : Nat → Int) (w : World) (hN : N ≤ 9223372036854775807) (hR : Rowsw w ao N A l c F) (hok : okG N l F = false) :
    Calls Try.prog 35 #[.agg #[.slice ao N cap], .slice bo m dap, .slice co k fap] w fun e w' => LsR w' e N l F m B k C (ofL N F B C) ∧ Below w.heap.size w w' := by
  have HG := Lib.hid hR
  have HOK := Lib.hid hok
  clear hR hok
  have HE : Hid (lsE N l F m B k C = 60) := Lib.hid (ls_no HOK.out)
  have hbx : (w.alloc (Obj.cells #[.slice ao N cap] 40)).cell? ⟨w.heap.size, 0, none⟩ = some (.slice ao N cap) := by go_cell
  have hb0 : Below w.heap.size w (w.alloc (Obj.cells #[.slice ao N cap] 40)) := by go_grown
  have hsz : w.heap.size < (w.alloc (Obj.cells #[.slice ao N cap] 40)).heap.size := by simp
  go_enter Try.func35, Try.ntmps35
  go_upto_region 1 with fail
  generalize (w.alloc (Obj.cells #[.slice ao N cap] 40)) = W at *
  have HB0 := Lib.hid hb0
  have HSZ := Lib.hid hsz
  clear hb0
  refine wp_region_lit ?_
  refine wpList_step (fun K hK => ?_); go_simp; refine hK _ _ ?_; clear hK K
  refine wpList_step (fun K hK => ?_); go_simp
  refine (read_no N cap ao A l c F _ hN (HG.out.keep (HB0.out.mono (Nat.le_refl _))) HOK.out).mono ?_
  rintro e w1 ⟨rfl, hb⟩
  have hB1 : Below w.heap.size w w1 := HB0.out.trans (hb.mono HB0.out.size)
  have hg : w.heap.size < w1.heap.size := by have h1 := hb.size; have h2 := HSZ.out; omega
  refine hK _ _ ?_; clear hK K
  clear hb hbx hsz HSZ HB0
  have HBK2 : Hid (Bkw (w1.alloc (Obj.cells #[.int .i64 0, .int .i64 0, .int .i64 0, .int .i64 0, .int .i64 0, .int .i64 0, .int .i64 0, .int .i64 0, .int .i64 0, .int .i64 0, .int .i64 0, .int .i64 0, .int .i64 0, .int .i64 0, .int .i64 0, .int .i64 0, .int .i64 0, .int .i64 0, .int .i64 0, .int .i64 0, .int .i64 0, .int .i64 0, .int .i64 0, .int .i64 0, .int .i64 0, .int .i64 0, .int .i64 0, .int .i64 0, .int .i64 0, .int .i64 0, .int .i64 0] 81)) w1.heap.size 0 (fun _ => 0) (fun _ => 0)) := Lib.hid (Bkw.fresh (by refine ⟨?_, ?_, ?_, ?_, ?_, ?_, ?_, ?_, ?_, ?_, ?_, ?_, ?_, ?_, ?_, ?_, ?_, ?_, ?_, ?_, ?_, ?_, ?_, ?_, ?_, ?_, ?_, ?_, ?_, ?_, ?_⟩ <;> go_cell) (by refine ⟨?_, ?_, ?_, ?_, ?_, ?_, ?_, ?_, ?_, ?_, ?_, ?_, ?_, ?_, ?_, ?_, ?_, ?_, ?_, ?_, ?_, ?_, ?_, ?_, ?_, ?_, ?_, ?_, ?_, ?_, ?_⟩ <;> go_cell))
  have hb2 : Below w1.heap.size w1 (w1.alloc (Obj.cells #[.int .i64 0, .int .i64 0, .int .i64 0, .int .i64 0, .int .i64 0, .int .i64 0, .int .i64 0, .int .i64 0, .int .i64 0, .int .i64 0, .int .i64 0, .int .i64 0, .int .i64 0, .int .i64 0, .int .i64 0, .int .i64 0, .int .i64 0, .int .i64 0, .int .i64 0, .int .i64 0, .int .i64 0, .int .i64 0, .int .i64 0, .int .i64 0, .int .i64 0, .int .i64 0, .int .i64 0, .int .i64 0, .int .i64 0, .int .i64 0, .int .i64 0] 81)) := (Below.refl _ _).alloc (Nat.le_refl _) _
  have hB2 : Below w.heap.size w (w1.alloc (Obj.cells #[.int .i64 0, .int .i64 0, .int .i64 0, .int .i64 0, .int .i64 0, .int .i64 0, .int .i64 0, .int .i64 0, .int .i64 0, .int .i64 0, .int .i64 0, .int .i64 0, .int .i64 0, .int .i64 0, .int .i64 0, .int .i64 0, .int .i64 0, .int .i64 0, .int .i64 0, .int .i64 0, .int .i64 0, .int .i64 0, .int .i64 0, .int .i64 0, .int .i64 0, .int .i64 0, .int .i64 0, .int .i64 0, .int .i64 0, .int .i64 0, .int .i64 0] 81)) := hB1.trans (hb2.mono hB1.size)
  refine wpList_step (fun K hK => ?_); go_simp; refine hK _ _ ?_; clear hK K
  refine wpList_step (fun K hK => ?_); go_simp; refine hK _ _ ?_; clear hK K
  refine wpList_step (fun K hK => ?_); go_simp; refine hK _ _ ?_; clear hK K
  refine wpList_step (fun K hK => ?_); go_simp; refine hK _ _ ?_; clear hK K
  generalize (w1.alloc (Obj.cells #[.int .i64 0, .int .i64 0, .int .i64 0, .int .i64 0, .int .i64 0, .int .i64 0, .int .i64 0, .int .i64 0, .int .i64 0, .int .i64 0, .int .i64 0, .int .i64 0, .int .i64 0, .int .i64 0, .int .i64 0, .int .i64 0, .int .i64 0, .int .i64 0, .int .i64 0, .int .i64 0, .int .i64 0, .int .i64 0, .int .i64 0, .int .i64 0, .int .i64 0, .int .i64 0, .int .i64 0, .int .i64 0, .int .i64 0, .int .i64 0, .int .i64 0] 81)) = W2 at *
  have HTH : Hid (W2.there w1.heap.size 0 (bkL 0 (fun _ => 0) (fun _ => 0)).toArray.size) := Lib.hid HBK2.out.there
  (refine wpList_store_mid rfl 81 _ _ rfl w1.heap.size 0 (bkL 0 (fun _ => 0) (fun _ => 0)).toArray rfl rfl HTH.out (infoBk 0 (fun _ => 0) (fun _ => 0)) (all_oneCell_toArray (bkL_one 0 (fun _ => 0) (fun _ => 0))) ?_)
  have HM3 : Hid (Bkw (W2.setCells w1.heap.size 0 (bkL 0 (fun _ => 0) (fun _ => 0)).toArray.toList) w1.heap.size 0 (fun _ => 0) (fun _ => 0)) := Lib.hid (by rw [List.toList_toArray]; exact HBK2.out.whole)
  have HB3 : Hid (Below w.heap.size w (W2.setCells w1.heap.size 0 (bkL 0 (fun _ => 0) (fun _ => 0)).toArray.toList)) := Lib.hid (below_setCells hB2 hB1.size _ _)
  generalize W2.setCells w1.heap.size 0 (bkL 0 (fun _ => 0) (fun _ => 0)).toArray.toList = W3 at *
  have hs3 : w1.heap.size < W3.heap.size := World.block_lt_of_cell? _ _ HM3.out.1.1
  clear HTH HBK2 hb2 hB2 hB1
  generalize w1.heap.size = g at *
  refine wpList_step (fun K hK => ?_); go_simp; refine hK _ _ ?_; clear hK K
  refine wpList_nil ?_
  have hbl := HB3.out
  clear HM3 HB3
  go_wp2_with fail
  refine bodyPost_ret (v := .tuple #[.slice none 0 0, .int .i64 60]) (by simp [results, Try.results35, go_sem, *]) rfl ⟨lsR_no HE.out (by decide), by go_grown⟩
set_option maxRecDepth 100000 in
set_option maxHeartbeats 8000000 in
theorem hPhases_ok (N cap : Nat) (ao : Option Addr) (A : Nat → Option Addr) (l c : Nat → Nat) (F : Nat → Nat → Int) (m dap : Nat) (bo : Option Addr) (B : Nat → Int) (k fap : Nat) (co : Option Addr) (C : Nat → Int) (w : World) (hN : N ≤ 9223372036854775807) (hR : Rowsw w ao N A l c F) (hok : okG N l F = true) (hm : m ≤ 9223372036854775807) (hI : Ints w bo m B) (hk : k ≤ 9223372036854775807) (hJ : Ints w co k C) :
    Calls Try.prog 33 #[.agg #[.slice ao N cap], .slice bo m dap, .slice co k fap] w fun e w' => LsR w' e N l F m B k C (phL N F B C) ∧ Below w.heap.size w w' := by
  have HG := Lib.hid hR
  have HOK := Lib.hid hok
  clear hR hok
  obtain ⟨i0, hi, hz0, hz1, hz2⟩ := info_parts infoInt
  have HINF := Lib.hid (And.intro hi (And.intro hz0 (And.intro hz1 hz2)))
  clear hi hz0 hz1 hz2
  have hN5 := (okG_iff.1 HOK.out).1.2
  have hN1 := (okG_iff.1 HOK.out).1.1
  have HF : Hid (∀ i, i < N → ∀ j, j < N → -200 ≤ F i j ∧ F i j ≤ 200) := Lib.hid (fun i hi => ((okG_iff.1 HOK.out).2 i hi).2)
  have HI := Lib.hid hI
  have HJ := Lib.hid hJ
  clear hI hJ
  obtain ⟨bb, hbb⟩ : ∃ bb, inB m B N (-1000000) 1000000 = bb := ⟨_, rfl⟩
  have HBB := Lib.hid hbb
  obtain ⟨bc, hbc⟩ : ∃ bc, inB k C N 0 1000 = bc := ⟨_, rfl⟩
  have HBC := Lib.hid hbc
  clear hbb hbc
  have hbx : (w.alloc (Obj.cells #[.slice ao N cap] 40)).cell? ⟨w.heap.size, 0, none⟩ = some (.slice ao N cap) := by go_cell
  have hb0 : Below w.heap.size w (w.alloc (Obj.cells #[.slice ao N cap] 40)) := by go_grown
  have hsz : w.heap.size < (w.alloc (Obj.cells #[.slice ao N cap] 40)).heap.size := by simp
  go_enter Try.func33, Try.ntmps33
  go_upto_region 1 with fail
  generalize (w.alloc (Obj.cells #[.slice ao N cap] 40)) = W at *
  have HB0 := Lib.hid hb0
  have HSZ := Lib.hid hsz
  clear hb0
  refine wp_region_lit ?_
  refine wpList_step (fun K hK => ?_); go_simp; refine hK _ _ ?_; clear hK K
  refine wpList_step (fun K hK => ?_); go_simp
  refine (read_ok N cap ao A l c F _ hN (HG.out.keep (HB0.out.mono (Nat.le_refl _))) HOK.out).mono ?_
  rintro e w1 ⟨rfl, hb⟩
  have hB1 : Below w.heap.size w w1 := HB0.out.trans (hb.mono HB0.out.size)
  have hg : w.heap.size < w1.heap.size := by have h1 := hb.size; have h2 := HSZ.out; omega
  refine hK _ _ ?_; clear hK K
  clear hb hbx hsz HSZ HB0
  have HBK2 : Hid (Bkw (w1.alloc (Obj.cells #[.int .i64 0, .int .i64 0, .int .i64 0, .int .i64 0, .int .i64 0, .int .i64 0, .int .i64 0, .int .i64 0, .int .i64 0, .int .i64 0, .int .i64 0, .int .i64 0, .int .i64 0, .int .i64 0, .int .i64 0, .int .i64 0, .int .i64 0, .int .i64 0, .int .i64 0, .int .i64 0, .int .i64 0, .int .i64 0, .int .i64 0, .int .i64 0, .int .i64 0, .int .i64 0, .int .i64 0, .int .i64 0, .int .i64 0, .int .i64 0, .int .i64 0] 81)) w1.heap.size 0 (fun _ => 0) (fun _ => 0)) := Lib.hid (Bkw.fresh (by refine ⟨?_, ?_, ?_, ?_, ?_, ?_, ?_, ?_, ?_, ?_, ?_, ?_, ?_, ?_, ?_, ?_, ?_, ?_, ?_, ?_, ?_, ?_, ?_, ?_, ?_, ?_, ?_, ?_, ?_, ?_, ?_⟩ <;> go_cell) (by refine ⟨?_, ?_, ?_, ?_, ?_, ?_, ?_, ?_, ?_, ?_, ?_, ?_, ?_, ?_, ?_, ?_, ?_, ?_, ?_, ?_, ?_, ?_, ?_, ?_, ?_, ?_, ?_, ?_, ?_, ?_, ?_⟩ <;> go_cell))
  have hb2 : Below w1.heap.size w1 (w1.alloc (Obj.cells #[.int .i64 0, .int .i64 0, .int .i64 0, .int .i64 0, .int .i64 0, .int .i64 0, .int .i64 0, .int .i64 0, .int .i64 0, .int .i64 0, .int .i64 0, .int .i64 0, .int .i64 0, .int .i64 0, .int .i64 0, .int .i64 0, .int .i64 0, .int .i64 0, .int .i64 0, .int .i64 0, .int .i64 0, .int .i64 0, .int .i64 0, .int .i64 0, .int .i64 0, .int .i64 0, .int .i64 0, .int .i64 0, .int .i64 0, .int .i64 0, .int .i64 0] 81)) := (Below.refl _ _).alloc (Nat.le_refl _) _
  have hB2 : Below w.heap.size w (w1.alloc (Obj.cells #[.int .i64 0, .int .i64 0, .int .i64 0, .int .i64 0, .int .i64 0, .int .i64 0, .int .i64 0, .int .i64 0, .int .i64 0, .int .i64 0, .int .i64 0, .int .i64 0, .int .i64 0, .int .i64 0, .int .i64 0, .int .i64 0, .int .i64 0, .int .i64 0, .int .i64 0, .int .i64 0, .int .i64 0, .int .i64 0, .int .i64 0, .int .i64 0, .int .i64 0, .int .i64 0, .int .i64 0, .int .i64 0, .int .i64 0, .int .i64 0, .int .i64 0] 81)) := hB1.trans (hb2.mono hB1.size)
  refine wpList_step (fun K hK => ?_); go_simp; refine hK _ _ ?_; clear hK K
  refine wpList_step (fun K hK => ?_); go_simp; refine hK _ _ ?_; clear hK K
  refine wpList_step (fun K hK => ?_); go_simp; refine hK _ _ ?_; clear hK K
  refine wpList_step (fun K hK => ?_); go_simp; refine hK _ _ ?_; clear hK K
  generalize (w1.alloc (Obj.cells #[.int .i64 0, .int .i64 0, .int .i64 0, .int .i64 0, .int .i64 0, .int .i64 0, .int .i64 0, .int .i64 0, .int .i64 0, .int .i64 0, .int .i64 0, .int .i64 0, .int .i64 0, .int .i64 0, .int .i64 0, .int .i64 0, .int .i64 0, .int .i64 0, .int .i64 0, .int .i64 0, .int .i64 0, .int .i64 0, .int .i64 0, .int .i64 0, .int .i64 0, .int .i64 0, .int .i64 0, .int .i64 0, .int .i64 0, .int .i64 0, .int .i64 0] 81)) = W2 at *
  have HTH : Hid (W2.there w1.heap.size 0 (bkL N (gnL N N F) (rhL N N 0 F)).toArray.size) := Lib.hid HBK2.out.there
  (refine wpList_store_mid rfl 81 _ _ rfl w1.heap.size 0 (bkL N (gnL N N F) (rhL N N 0 F)).toArray rfl rfl HTH.out (infoBk N (gnL N N F) (rhL N N 0 F)) (all_oneCell_toArray (bkL_one N (gnL N N F) (rhL N N 0 F))) ?_)
  have HM3 : Hid (Bkw (W2.setCells w1.heap.size 0 (bkL N (gnL N N F) (rhL N N 0 F)).toArray.toList) w1.heap.size N (gnL N N F) (rhL N N 0 F)) := Lib.hid (by rw [List.toList_toArray]; exact HBK2.out.whole)
  have HB3 : Hid (Below w.heap.size w (W2.setCells w1.heap.size 0 (bkL N (gnL N N F) (rhL N N 0 F)).toArray.toList)) := Lib.hid (below_setCells hB2 hB1.size _ _)
  generalize W2.setCells w1.heap.size 0 (bkL N (gnL N N F) (rhL N N 0 F)).toArray.toList = W3 at *
  have hs3 : w1.heap.size < W3.heap.size := World.block_lt_of_cell? _ _ HM3.out.1.1
  clear HTH HBK2 hb2 hB2 hB1
  generalize w1.heap.size = g at *
  refine wpList_step (fun K hK => ?_); go_simp; refine hK _ _ ?_; clear hK K
  refine wpList_nil ?_
  have hc0 := HM3.out.1.1
  go_wp2_with fail
  refine (arePhases_any m dap bo B N _ hm (HI.out.keep (HB3.out.mono (Nat.le_refl _)))).mono ?_
  rw [HBB.out]
  rintro e w4 ⟨rfl, hb⟩
  have HM4 := Lib.hid (HM3.out.keep hb)
  have HB4 := Lib.hid (HB3.out.trans (hb.mono HB3.out.size))
  have hs4 : g < w4.heap.size := World.block_lt_of_cell? _ _ HM4.out.1.1
  clear hb hc0 HM3 HB3 hs3
  cases bb with
  | false =>
    have HE : Hid (lsE N l F m B k C = 2) := Lib.hid (ls_arg HOK.out (by rw [HBB.out]; rfl))
    have hbl := HB4.out
    clear HM4 HB4
    go_wp2_with fail
    refine bodyPost_ret (v := .tuple #[.slice none 0 0, .int .i64 2]) (by simp [results, Try.results33, go_sem, *]) rfl ⟨lsR_no HE.out (by decide), by go_grown⟩
  | true =>
  have hc0 := HM4.out.1.1
  go_wp2_with fail
  refine (arePowers_any k fap co C N _ hk (HJ.out.keep (HB4.out.mono (Nat.le_refl _)))).mono ?_
  rw [HBC.out]
  rintro e w5 ⟨rfl, hb⟩
  have HM5 := Lib.hid (HM4.out.keep hb)
  have HB5 := Lib.hid (HB4.out.trans (hb.mono HB4.out.size))
  have hs5 : g < w5.heap.size := World.block_lt_of_cell? _ _ HM5.out.1.1
  clear hb hc0 HM4 HB4 hs4
  cases bc with
  | false =>
    have HE : Hid (lsE N l F m B k C = 2) := Lib.hid (ls_arg HOK.out (by rw [HBB.out, HBC.out]; rfl))
    have hbl := HB5.out
    clear HM5 HB5
    go_wp2_with fail
    refine bodyPost_ret (v := .tuple #[.slice none 0 0, .int .i64 2]) (by simp [results, Try.results33, go_sem, *]) rfl ⟨lsR_no HE.out (by decide), by go_grown⟩
  | true =>
  have HE : Hid (lsE N l F m B k C = 0) := Lib.hid (ls_ok HOK.out (by rw [HBB.out, HBC.out]; rfl))
  have HBI : Hid (∀ j, j < N → -1000000 ≤ B j ∧ B j ≤ 1000000) := Lib.hid (fun j hj => (inB_iff.1 HBB.out).2 j (by have := (inB_iff.1 HBB.out).1; omega))
  have HCI : Hid (∀ j, j < N → 0 ≤ C j ∧ C j ≤ 1000) := Lib.hid (fun j hj => (inB_iff.1 HBC.out).2 j (by have := (inB_iff.1 HBC.out).1; omega))
  have hmN : N = m := by have := (inB_iff.1 HBB.out).1; omega
  have hkN : N = k := by have := (inB_iff.1 HBC.out).1; omega
  subst hmN
  subst hkN
  clear hm hk
  go_upto_region 6 with fail
  have HMK : Hid (∀ w', Below w5.heap.size w5 w' → Sqw w' g N (gnL N N F)) := Lib.hid (fun w' hb => HM5.out.1.keep hb)
  have D0 : Below w5.heap.size w5 w5.drew := (Below.refl _ _).drew
  go_cut [10] (fun v10 wx => ∃ b10 : Nat, v10 = .pointer (some ⟨b10, 0, none⟩) ∧ w5.heap.size ≤ b10 ∧ b10 < wx.heap.size ∧ Hid (Liw wx b10 (timL N (gnL N N F) (padI N C) N 0)) ∧ Below w5.heap.size w5 wx)
  case first =>
    refine wp_region_held_drew (S := fun w' => Sqw w' g N (gnL N N F)) (by kernel_rfl) (HMK.out _ D0) (fun hHeld => ?_)
    refine wpAnyH_take (i := 0) (oi := _) (v := ?_) rfl (by kernel_rfl) (by kernel_rfl) (by kernel_rfl) (fun _ _ _ h => h) (Or.inl ⟨by rfl, ?_⟩) (by assumption) ?_
    rotate_left
    · intro w hSw; go_simp; (try with_reducible rfl)
    try change wpAnyH _ _ _ _ _ _ _ (Act.put _ (some 35) _) _
    try simp only [act_all]
    refine wpAnyH_take (i := 1) (oi := _) (v := _) rfl (by kernel_rfl) (by kernel_rfl) (by kernel_rfl) (fun _ _ _ h => h) (yieldsIf_load_mid (by rfl) 79 _ rfl g 0 rfl (sqL N (gnL N N F)) _ (fun _ h => Sqw.range h) Try.underlying79 rfl (infoSq _ _)) (by assumption) ?_
    try change wpAnyH _ _ _ _ _ _ _ (Act.put _ (some 36) _) _
    try simp only [act_all]
    refine wpAnyH_take (i := 2) (oi := _) (v := ?_) rfl (by kernel_rfl) (by kernel_rfl) (by kernel_rfl) (fun _ _ _ h => h) (Or.inl ⟨by rfl, ?_⟩) (by assumption) ?_
    rotate_left
    · intro w hSw; go_simp; (try with_reducible rfl)
    try change wpAnyH _ _ _ _ _ _ _ (Act.put _ (some 37) _) _
    try simp only [act_all]
    refine wpAnyH_ready (rs := [3, 5]) (by kernel_rfl) (by simp) ?_
    refine AllReadyH.cons (o := _) rfl (fun K hK => ?_) ?_
    · go_simp
      refine (held_any N fap co C _ hN5 (HJ.out.keep (HB5.out.trans (D0.mono HB5.out.size)))).mono ?_
      rintro e v1 ⟨rfl, hb⟩
      have Dv1 : Below w5.heap.size w5 v1 := D0.trans (hb.mono D0.size)
      clear hb
      refine hK.out _ _ (HMK.out _ Dv1) (fun hHeld => ?_)
      clear hK K
      try simp only [act_all]
      refine wpAnyH_ready (rs := [4, 5]) (by kernel_rfl) (by simp) ?_
      refine AllReadyH.cons (o := _) rfl (fun K hK => ?_) ?_
      · go_simp
        refine (times_any N (gnL N N F) (padI N C) _ hN5 (gnp_bd HF.out HCI.out)).mono ?_
        rintro e v2 ⟨rfl, hb⟩
        have Dv2 : Below w5.heap.size w5 v2 := Dv1.trans (hb.mono Dv1.size)
        clear hb
        refine hK.out _ _ (HMK.out _ Dv2) (fun hHeld => ?_)
        clear hK K
        try simp only [act_all]
        refine wpAnyH_ready (rs := [5]) (by kernel_rfl) (by simp) ?_
        refine AllReadyH.cons (o := _) rfl (fun K hK => ?_) AllReadyH.nil
        go_simp
        have Da3 : Below w5.heap.size w5 (v2.alloc (Obj.cells #[.int .i64 0, .int .i64 0, .int .i64 0, .int .i64 0, .int .i64 0] 74)) := bal Dv2 _
        have HAa3 : Hid (Intw (v2.alloc (Obj.cells #[.int .i64 0, .int .i64 0, .int .i64 0, .int .i64 0, .int .i64 0] 74)) (v2.heap.size) 5 (fun _ => 0)) := Lib.hid (fun j hj => by rcases (show j = 0 ∨ j = 1 ∨ j = 2 ∨ j = 3 ∨ j = 4 by omega) with rfl | rfl | rfl | rfl | rfl <;> exact ⟨by go_cell, by go_cell⟩)
        have hla3 : v2.heap.size < (v2.alloc (Obj.cells #[.int .i64 0, .int .i64 0, .int .i64 0, .int .i64 0, .int .i64 0] 74)).heap.size := by simp
        have hga3 : w5.heap.size ≤ v2.heap.size := Dv2.size
        refine hK.out _ _ (HMK.out _ Da3) (fun hHeld => ?_)
        clear hK K
        try simp only [act_all]
        refine wpAnyH_ready (rs := [6]) (by kernel_rfl) (by simp) ?_
        refine AllReadyH.cons (o := _) rfl (fun K hK => ?_) AllReadyH.nil
        try unfold liV
        obtain ⟨⟨p0, r0⟩, ⟨p1, r1⟩, ⟨p2, r2⟩, ⟨p3, r3⟩, ⟨p4, r4⟩⟩ : _ ∧ _ ∧ _ ∧ _ ∧ _ := ⟨HAa3.out 0 (by omega), HAa3.out 1 (by omega), HAa3.out 2 (by omega), HAa3.out 3 (by omega), HAa3.out 4 (by omega)⟩
        go_simp
        have DS : Below w5.heap.size w5 (v2.alloc (Obj.cells #[.int .i64 (timL N (gnL N N F) (padI N C) N 0 0), .int .i64 (timL N (gnL N N F) (padI N C) N 0 1), .int .i64 (timL N (gnL N N F) (padI N C) N 0 2), .int .i64 (timL N (gnL N N F) (padI N C) N 0 3), .int .i64 (timL N (gnL N N F) (padI N C) N 0 4)] 74)) := bal Dv2 _
        refine hK.out _ _ (HMK.out _ DS) (fun hHeld => ?_)
        clear hK K
        try simp only [act_all]
        refine wpAnyH_done (by kernel_rfl) ?_ _
        have hLw : Liw (v2.alloc (Obj.cells #[.int .i64 (timL N (gnL N N F) (padI N C) N 0 0), .int .i64 (timL N (gnL N N F) (padI N C) N 0 1), .int .i64 (timL N (gnL N N F) (padI N C) N 0 2), .int .i64 (timL N (gnL N N F) (padI N C) N 0 3), .int .i64 (timL N (gnL N N F) (padI N C) N 0 4)] 74)) v2.heap.size (timL N (gnL N N F) (padI N C) N 0) := fun j hj => by (try simp only []); rcases (show j = 0 ∨ j = 1 ∨ j = 2 ∨ j = 3 ∨ j = 4 by omega) with rfl | rfl | rfl | rfl | rfl <;> go_cell
        have hlt9 : v2.heap.size < (v2.alloc (Obj.cells #[.int .i64 (timL N (gnL N N F) (padI N C) N 0 0), .int .i64 (timL N (gnL N N F) (padI N C) N 0 1), .int .i64 (timL N (gnL N N F) (padI N C) N 0 2), .int .i64 (timL N (gnL N N F) (padI N C) N 0 3), .int .i64 (timL N (gnL N N F) (padI N C) N 0 4)] 74)).heap.size := by have := hla3; first | exact World.block_lt_of_cell? _ _ (hLw 0 (by omega)) | (simpa using this)
        have HLw := Lib.hid hLw
        clear hLw p0 p1 p2 p3 p4 r0 r1 r2 r3 r4
        go_wp2_with fail
        go_meet
        exact ⟨_, rfl, hga3, hlt9, HLw, DS⟩
      refine AllReadyH.cons (o := _) rfl (fun K hK => ?_) AllReadyH.nil
      go_simp
      have Da4 : Below w5.heap.size w5 (v1.alloc (Obj.cells #[.int .i64 0, .int .i64 0, .int .i64 0, .int .i64 0, .int .i64 0] 74)) := bal Dv1 _
      have HAa4 : Hid (Intw (v1.alloc (Obj.cells #[.int .i64 0, .int .i64 0, .int .i64 0, .int .i64 0, .int .i64 0] 74)) (v1.heap.size) 5 (fun _ => 0)) := Lib.hid (fun j hj => by rcases (show j = 0 ∨ j = 1 ∨ j = 2 ∨ j = 3 ∨ j = 4 by omega) with rfl | rfl | rfl | rfl | rfl <;> exact ⟨by go_cell, by go_cell⟩)
      have hla4 : v1.heap.size < (v1.alloc (Obj.cells #[.int .i64 0, .int .i64 0, .int .i64 0, .int .i64 0, .int .i64 0] 74)).heap.size := by simp
      have hga4 : w5.heap.size ≤ v1.heap.size := Dv1.size
      refine hK.out _ _ (HMK.out _ Da4) (fun hHeld => ?_)
      clear hK K
      try simp only [act_all]
      refine wpAnyH_ready (rs := [4]) (by kernel_rfl) (by simp) ?_
      refine AllReadyH.cons (o := _) rfl (fun K hK => ?_) AllReadyH.nil
      go_simp
      refine (times_any N (gnL N N F) (padI N C) _ hN5 (gnp_bd HF.out HCI.out)).mono ?_
      rintro e v5 ⟨rfl, hb⟩
      have Dv5 : Below w5.heap.size w5 v5 := Da4.trans (hb.mono Da4.size)
      have HAv5 := Lib.hid (HAa4.out.keep hb)
      have hlv5 : v1.heap.size < v5.heap.size := by have := hb.size; have := hla4; omega
      clear hb
      refine hK.out _ _ (HMK.out _ Dv5) (fun hHeld => ?_)
      clear hK K
      try simp only [act_all]
      refine wpAnyH_ready (rs := [6]) (by kernel_rfl) (by simp) ?_
      refine AllReadyH.cons (o := _) rfl (fun K hK => ?_) AllReadyH.nil
      try unfold liV
      obtain ⟨⟨p0, r0⟩, ⟨p1, r1⟩, ⟨p2, r2⟩, ⟨p3, r3⟩, ⟨p4, r4⟩⟩ : _ ∧ _ ∧ _ ∧ _ ∧ _ := ⟨HAv5.out 0 (by omega), HAv5.out 1 (by omega), HAv5.out 2 (by omega), HAv5.out 3 (by omega), HAv5.out 4 (by omega)⟩
      go_simp
      have DS : Below w5.heap.size w5 (((((v5.setCell ⟨v1.heap.size, 0, none⟩ (.int .i64 (timL N (gnL N N F) (padI N C) N 0 0))).setCell ⟨v1.heap.size, 1, none⟩ (.int .i64 (timL N (gnL N N F) (padI N C) N 0 1))).setCell ⟨v1.heap.size, 2, none⟩ (.int .i64 (timL N (gnL N N F) (padI N C) N 0 2))).setCell ⟨v1.heap.size, 3, none⟩ (.int .i64 (timL N (gnL N N F) (padI N C) N 0 3))).setCell ⟨v1.heap.size, 4, none⟩ (.int .i64 (timL N (gnL N N F) (padI N C) N 0 4))) := by have := hga4; have := hlv5; have := Dv5; go_grown
      refine hK.out _ _ (HMK.out _ DS) (fun hHeld => ?_)
      clear hK K
      try simp only [act_all]
      refine wpAnyH_done (by kernel_rfl) ?_ _
      have hLw : Liw (((((v5.setCell ⟨v1.heap.size, 0, none⟩ (.int .i64 (timL N (gnL N N F) (padI N C) N 0 0))).setCell ⟨v1.heap.size, 1, none⟩ (.int .i64 (timL N (gnL N N F) (padI N C) N 0 1))).setCell ⟨v1.heap.size, 2, none⟩ (.int .i64 (timL N (gnL N N F) (padI N C) N 0 2))).setCell ⟨v1.heap.size, 3, none⟩ (.int .i64 (timL N (gnL N N F) (padI N C) N 0 3))).setCell ⟨v1.heap.size, 4, none⟩ (.int .i64 (timL N (gnL N N F) (padI N C) N 0 4))) v1.heap.size (timL N (gnL N N F) (padI N C) N 0) := fun j hj => by (try simp only []); rcases (show j = 0 ∨ j = 1 ∨ j = 2 ∨ j = 3 ∨ j = 4 by omega) with rfl | rfl | rfl | rfl | rfl <;> go_cell
      have hlt9 : v1.heap.size < (((((v5.setCell ⟨v1.heap.size, 0, none⟩ (.int .i64 (timL N (gnL N N F) (padI N C) N 0 0))).setCell ⟨v1.heap.size, 1, none⟩ (.int .i64 (timL N (gnL N N F) (padI N C) N 0 1))).setCell ⟨v1.heap.size, 2, none⟩ (.int .i64 (timL N (gnL N N F) (padI N C) N 0 2))).setCell ⟨v1.heap.size, 3, none⟩ (.int .i64 (timL N (gnL N N F) (padI N C) N 0 3))).setCell ⟨v1.heap.size, 4, none⟩ (.int .i64 (timL N (gnL N N F) (padI N C) N 0 4))).heap.size := by have := hlv5; first | exact World.block_lt_of_cell? _ _ (hLw 0 (by omega)) | (simpa using this)
      have HLw := Lib.hid hLw
      clear hLw p0 p1 p2 p3 p4 r0 r1 r2 r3 r4
      go_wp2_with fail
      go_meet
      exact ⟨_, rfl, hga4, hlt9, HLw, DS⟩
    refine AllReadyH.cons (o := _) rfl (fun K hK => ?_) AllReadyH.nil
    go_simp
    have Da6 : Below w5.heap.size w5 (w5.drew.alloc (Obj.cells #[.int .i64 0, .int .i64 0, .int .i64 0, .int .i64 0, .int .i64 0] 74)) := bal D0 _
    have HAa6 : Hid (Intw (w5.drew.alloc (Obj.cells #[.int .i64 0, .int .i64 0, .int .i64 0, .int .i64 0, .int .i64 0] 74)) (w5.heap.size) 5 (fun _ => 0)) := Lib.hid (fun j hj => by rcases (show j = 0 ∨ j = 1 ∨ j = 2 ∨ j = 3 ∨ j = 4 by omega) with rfl | rfl | rfl | rfl | rfl <;> exact ⟨by go_cell, by go_cell⟩)
    have hla6 : w5.heap.size < (w5.drew.alloc (Obj.cells #[.int .i64 0, .int .i64 0, .int .i64 0, .int .i64 0, .int .i64 0] 74)).heap.size := by simp
    have hga6 : w5.heap.size ≤ w5.heap.size := D0.size
    refine hK.out _ _ (HMK.out _ Da6) (fun hHeld => ?_)
    clear hK K
    try simp only [act_all]
    refine wpAnyH_ready (rs := [3]) (by kernel_rfl) (by simp) ?_
    refine AllReadyH.cons (o := _) rfl (fun K hK => ?_) AllReadyH.nil
    go_simp
    refine (held_any N fap co C _ hN5 (HJ.out.keep (HB5.out.trans (Da6.mono HB5.out.size)))).mono ?_
    rintro e v7 ⟨rfl, hb⟩
    have Dv7 : Below w5.heap.size w5 v7 := Da6.trans (hb.mono Da6.size)
    have HAv7 := Lib.hid (HAa6.out.keep hb)
    have hlv7 : w5.heap.size < v7.heap.size := by have := hb.size; have := hla6; omega
    clear hb
    refine hK.out _ _ (HMK.out _ Dv7) (fun hHeld => ?_)
    clear hK K
    try simp only [act_all]
    refine wpAnyH_ready (rs := [4]) (by kernel_rfl) (by simp) ?_
    refine AllReadyH.cons (o := _) rfl (fun K hK => ?_) AllReadyH.nil
    go_simp
    refine (times_any N (gnL N N F) (padI N C) _ hN5 (gnp_bd HF.out HCI.out)).mono ?_
    rintro e v8 ⟨rfl, hb⟩
    have Dv8 : Below w5.heap.size w5 v8 := Dv7.trans (hb.mono Dv7.size)
    have HAv8 := Lib.hid (HAv7.out.keep hb)
    have hlv8 : w5.heap.size < v8.heap.size := by have := hb.size; have := hlv7; omega
    clear hb
    refine hK.out _ _ (HMK.out _ Dv8) (fun hHeld => ?_)
    clear hK K
    try simp only [act_all]
    refine wpAnyH_ready (rs := [6]) (by kernel_rfl) (by simp) ?_
    refine AllReadyH.cons (o := _) rfl (fun K hK => ?_) AllReadyH.nil
    try unfold liV
    obtain ⟨⟨p0, r0⟩, ⟨p1, r1⟩, ⟨p2, r2⟩, ⟨p3, r3⟩, ⟨p4, r4⟩⟩ : _ ∧ _ ∧ _ ∧ _ ∧ _ := ⟨HAv8.out 0 (by omega), HAv8.out 1 (by omega), HAv8.out 2 (by omega), HAv8.out 3 (by omega), HAv8.out 4 (by omega)⟩
    go_simp
    have DS : Below w5.heap.size w5 (((((v8.setCell ⟨w5.heap.size, 0, none⟩ (.int .i64 (timL N (gnL N N F) (padI N C) N 0 0))).setCell ⟨w5.heap.size, 1, none⟩ (.int .i64 (timL N (gnL N N F) (padI N C) N 0 1))).setCell ⟨w5.heap.size, 2, none⟩ (.int .i64 (timL N (gnL N N F) (padI N C) N 0 2))).setCell ⟨w5.heap.size, 3, none⟩ (.int .i64 (timL N (gnL N N F) (padI N C) N 0 3))).setCell ⟨w5.heap.size, 4, none⟩ (.int .i64 (timL N (gnL N N F) (padI N C) N 0 4))) := by have := hga6; have := hlv8; have := Dv8; go_grown
    refine hK.out _ _ (HMK.out _ DS) (fun hHeld => ?_)
    clear hK K
    try simp only [act_all]
    refine wpAnyH_done (by kernel_rfl) ?_ _
    have hLw : Liw (((((v8.setCell ⟨w5.heap.size, 0, none⟩ (.int .i64 (timL N (gnL N N F) (padI N C) N 0 0))).setCell ⟨w5.heap.size, 1, none⟩ (.int .i64 (timL N (gnL N N F) (padI N C) N 0 1))).setCell ⟨w5.heap.size, 2, none⟩ (.int .i64 (timL N (gnL N N F) (padI N C) N 0 2))).setCell ⟨w5.heap.size, 3, none⟩ (.int .i64 (timL N (gnL N N F) (padI N C) N 0 3))).setCell ⟨w5.heap.size, 4, none⟩ (.int .i64 (timL N (gnL N N F) (padI N C) N 0 4))) w5.heap.size (timL N (gnL N N F) (padI N C) N 0) := fun j hj => by (try simp only []); rcases (show j = 0 ∨ j = 1 ∨ j = 2 ∨ j = 3 ∨ j = 4 by omega) with rfl | rfl | rfl | rfl | rfl <;> go_cell
    have hlt9 : w5.heap.size < (((((v8.setCell ⟨w5.heap.size, 0, none⟩ (.int .i64 (timL N (gnL N N F) (padI N C) N 0 0))).setCell ⟨w5.heap.size, 1, none⟩ (.int .i64 (timL N (gnL N N F) (padI N C) N 0 1))).setCell ⟨w5.heap.size, 2, none⟩ (.int .i64 (timL N (gnL N N F) (padI N C) N 0 2))).setCell ⟨w5.heap.size, 3, none⟩ (.int .i64 (timL N (gnL N N F) (padI N C) N 0 3))).setCell ⟨w5.heap.size, 4, none⟩ (.int .i64 (timL N (gnL N N F) (padI N C) N 0 4))).heap.size := by have := hlv8; first | exact World.block_lt_of_cell? _ _ (hLw 0 (by omega)) | (simpa using this)
    have HLw := Lib.hid hLw
    clear hLw p0 p1 p2 p3 p4 r0 r1 r2 r3 r4
    go_wp2_with fail
    go_meet
    exact ⟨_, rfl, hga6, hlt9, HLw, DS⟩
  case rest =>
    obtain ⟨b10, rfl, hb10, hl10, HT, hD⟩ := hcut
    have HMc := Lib.hid (HM5.out.keep hD)
    have HBc := Lib.hid (HB5.out.trans (hD.mono HB5.out.size))
    have hbl := HBc.out
    have hsz := hbl.size
    have hc0 := HMc.out.1.1
    clear hD HMK HM5 HB5 hs5
    go_wp2_with (refine wpList_make_full _ rfl (.tmp 42) (.tmp 42) 24 rfl wc.heap.size 3 i0 _ 1 Try.underlying24 HINF.out.1 HINF.out.2.1 HINF.out.2.2.1 .i64 .i64 _ _ N rfl rfl (by simp) (by simp) ?c1 ?c2 ?c3 ?_)
    case c1 => rw [HINF.out.2.2.2]; omega
    case c2 => unfold maxLen; omega
    case c3 => exact Nat.le_refl _
    intro w1 hown hgrow
    have HW : Hid (Intw w1 wc.heap.size N (fun _ => 0)) := Lib.hid (Intw.of_own hown fun i hi => made_get N i hi)
    have hlt1 : wc.heap.size < w1.heap.size := (hown.lt _ rfl).2
    have DW : Below wc.heap.size wc w1 := Below.grown (Below.refl _ _) hgrow (Nat.le_refl _) (fun k hk => by cases hk)
    have HB1 : Hid (Below w.heap.size w w1) := Lib.hid (hbl.trans (DW.mono hsz))
    have HT1 := Lib.hid (HT.out.keep DW)
    clear hown hgrow DW HBc HMc hbl hc0 HT
    generalize wc.heap.size = h at *
    go_wp2_with fail
    go_loopw [46] (fun iv wr => ∃ (z : Int) (i : Nat), iv = .int .i64 z ∧ z = i ∧ i ≤ N ∧ Hid (Intw wr h N (fun j => if j < i then phL N F B C j else 0)) ∧ Hid (Liw wr b10 (timL N (gnL N N F) (padI N C) N 0)) ∧ Hid (Below w.heap.size w wr) ∧ h < wr.heap.size) (fun iv _ => N - (intOf iv).toNat)
    case atStart => exact ⟨0, 0, rfl, by omega, by omega, Lib.hid (HW.out.congr fun i _ => (if_neg (by omega)).symm), HT1, HB1, hlt1⟩
    case round =>
      obtain ⟨z, i, rfl, hz, hi, HW2, HT2, HB, hsw⟩ := hrel
      by_cases hlt : i < N
      · have hlt' : z < (N : Int) := by omega
        subst hz
        have i00 : (0 : Int) ≤ (i : Int) := by omega
        have i5 : (i : Int) < 5 := by omega
        have wz : wrap64 ((i : Int) + 1) = (i : Int) + 1 := by simp only [wrap64]; omega
        obtain ⟨b, o, rfl, hcell⟩ := (HI.out.keep HB.out) (by omega)
        have g0 := hcell i hlt
        have t0 := HT2.out i (by omega)
        rw [timL_he hlt hN5] at t0
        obtain ⟨m0, m1⟩ := HW2.out i hlt
        replace m0 : wr.cell? ⟨h, i, none⟩ = some (.int .i64 0) := by rw [m0]; dsimp only; rw [if_neg (by omega)]
        have hbz := World.block_lt_of_cell? _ _ g0
        have hb1 := HBI.out i hlt
        have hb2 := he_bd (F := F) (i := i) (HF.out i hlt) HCI.out
        have HTN : Hid (Intw (wr.setCell ⟨h, i, none⟩ (.int .i64 (phL N F B C i))) h N (fun j => if j < i + 1 then phL N F B C j else 0)) := Lib.hid ((HW2.out.store hlt (phL N F B C i)).congr fun j hj => by
          unfold updI
          by_cases e : j = i
          · rw [if_pos e, if_pos (by omega), e]
          · rw [if_neg e]
            dsimp only
            by_cases e2 : j < i
            · rw [if_pos e2, if_pos (by omega)]
            · rw [if_neg e2, if_neg (by omega)])
        have HPH : Hid (phL N F B C i = (B i + heT F C i N) % 1000000) := Lib.hid rfl
        obtain ⟨y, hy⟩ : ∃ y, phL N F B C i = y := ⟨_, rfl⟩
        obtain ⟨x, hx⟩ : ∃ x, B i = x := ⟨_, rfl⟩
        obtain ⟨t, ht⟩ : ∃ t, heT F C i N = t := ⟨_, rfl⟩
        rw [hx] at g0 hb1
        rw [ht] at t0 hb2
        rw [hy] at HTN
        have hyq : (x + t) % 1000000 = y := by rw [← hy, HPH.out, hx, ht]
        have v1 : wrap64 (x + t) = x + t := by clear wz; simp only [wrap64]; omega
        have v2 : ((x + t).tmod 1000000 + 1000000).tmod 1000000 = y := by rw [rem_turn, hyq]
        have hq1 : -1000000 < (x + t).tmod 1000000 ∧ (x + t).tmod 1000000 < 1000000 := ⟨by have := Int.lt_tmod_of_pos (x + t) (show (0 : Int) < 1000000 by decide); omega, Int.tmod_lt_of_pos _ (by decide)⟩
        have v4 : wrap64 ((x + t).tmod 1000000 + 1000000) = (x + t).tmod 1000000 + 1000000 := by clear wz v1 v2; generalize (x + t).tmod 1000000 = q at *; simp only [wrap64]; omega
        have HVAL : Hid ((wrap64 ((wrap64 (x + t)).tmod 1000000 + 1000000)).tmod 1000000 = y) := Lib.hid (by rw [v1, v4, v2])
        have HTd : Hid (Intw ((wr.setCell ⟨h, i, none⟩ (.int .i64 y)).drew) h N (fun j => if j < i + 1 then phL N F B C j else 0)) := Lib.hid HTN.out
        have HLN : Hid (Liw ((wr.setCell ⟨h, i, none⟩ (.int .i64 y)).drew) b10 (timL N (gnL N N F) (padI N C) N 0)) := Lib.hid (fun q hq => by have := HT2.out q hq; have hne : ¬ h = b10 := (by omega); show (wr.setCell ⟨h, i, none⟩ (.int .i64 y)).cell? _ = _; go_cell)
        have HBN : Hid (Below w.heap.size w ((wr.setCell ⟨h, i, none⟩ (.int .i64 y)).drew)) := Lib.hid ((HB.out.setCell (p := ⟨h, i, none⟩) (by simp only; omega) (.int .i64 y)).drew)
        have hsn : h < ((wr.setCell ⟨h, i, none⟩ (.int .i64 y)).drew).heap.size := by simpa using hsw
        clear hcell HW HB1 hlt1 HW2 HT2 HB HTN hy hx ht hb1 hb2 hyq v1 v2 v4 hq1 HPH HT1
        go_upto_region 11 with fail
        go_region
        simp only [HVAL.out]
        clear g0 t0 m0 m1 hbz hsw HVAL
        generalize (wr.setCell ⟨h, i, none⟩ (.int .i64 y)).drew = wv at *
        go_wp2_with fail
        go_roundw
        case rel => exact ⟨(i : Int) + 1, i + 1, by first | rfl | rw [wz], by omega, by omega, HTd, HLN, HBN, hsn⟩
        case measure => first | (simp [intOf]; done) | (simp [intOf]; omega)
      · obtain rfl : i = N := by omega
        have HW5 : Hid (Intw wr h i (phL i F B C)) := Lib.hid (HW2.out.congr fun j hj => if_pos hj)
        have hbl := HB.out
        clear HW2 HT2 HB HW HT1 HB1
        go_wp2_with fail
        refine bodyPost_ret (v := .tuple #[.slice (some ⟨h, 0, none⟩) i i, .int .i64 0]) (by simp [results, Try.results33, go_sem]) rfl ⟨lsR_ok HE.out HW5.out, hbl⟩
set_option maxRecDepth 100000 in
set_option maxHeartbeats 8000000 in
theorem hOff_ok (N cap : Nat) (ao : Option Addr) (A : Nat → Option Addr) (l c : Nat → Nat) (F : Nat → Nat → Int) (m dap : Nat) (bo : Option Addr) (B : Nat → Int) (k fap : Nat) (co : Option Addr) (C : Nat → Int) (w : World) (hN : N ≤ 9223372036854775807) (hR : Rowsw w ao N A l c F) (hok : okG N l F = true) (hm : m ≤ 9223372036854775807) (hI : Ints w bo m B) (hk : k ≤ 9223372036854775807) (hJ : Ints w co k C) :
    Calls Try.prog 35 #[.agg #[.slice ao N cap], .slice bo m dap, .slice co k fap] w fun e w' => LsR w' e N l F m B k C (ofL N F B C) ∧ Below w.heap.size w w' := by
  have HG := Lib.hid hR
  have HOK := Lib.hid hok
  clear hR hok
  have hN5 := (okG_iff.1 HOK.out).1.2
  have hN1 := (okG_iff.1 HOK.out).1.1
  have HF : Hid (∀ i, i < N → ∀ j, j < N → -200 ≤ F i j ∧ F i j ≤ 200) := Lib.hid (fun i hi => ((okG_iff.1 HOK.out).2 i hi).2)
  have HI := Lib.hid hI
  have HJ := Lib.hid hJ
  clear hI hJ
  obtain ⟨bb, hbb⟩ : ∃ bb, inB m B N (-1000000) 1000000 = bb := ⟨_, rfl⟩
  have HBB := Lib.hid hbb
  obtain ⟨bc, hbc⟩ : ∃ bc, inB k C N 0 1000 = bc := ⟨_, rfl⟩
  have HBC := Lib.hid hbc
  clear hbb hbc
  have hbx : (w.alloc (Obj.cells #[.slice ao N cap] 40)).cell? ⟨w.heap.size, 0, none⟩ = some (.slice ao N cap) := by go_cell
  have hb0 : Below w.heap.size w (w.alloc (Obj.cells #[.slice ao N cap] 40)) := by go_grown
  have hsz : w.heap.size < (w.alloc (Obj.cells #[.slice ao N cap] 40)).heap.size := by simp
  go_enter Try.func35, Try.ntmps35
  go_upto_region 1 with fail
  generalize (w.alloc (Obj.cells #[.slice ao N cap] 40)) = W at *
  have HB0 := Lib.hid hb0
  have HSZ := Lib.hid hsz
  clear hb0
  refine wp_region_lit ?_
  refine wpList_step (fun K hK => ?_); go_simp; refine hK _ _ ?_; clear hK K
  refine wpList_step (fun K hK => ?_); go_simp
  refine (read_ok N cap ao A l c F _ hN (HG.out.keep (HB0.out.mono (Nat.le_refl _))) HOK.out).mono ?_
  rintro e w1 ⟨rfl, hb⟩
  have hB1 : Below w.heap.size w w1 := HB0.out.trans (hb.mono HB0.out.size)
  have hg : w.heap.size < w1.heap.size := by have h1 := hb.size; have h2 := HSZ.out; omega
  refine hK _ _ ?_; clear hK K
  clear hb hbx hsz HSZ HB0
  have HBK2 : Hid (Bkw (w1.alloc (Obj.cells #[.int .i64 0, .int .i64 0, .int .i64 0, .int .i64 0, .int .i64 0, .int .i64 0, .int .i64 0, .int .i64 0, .int .i64 0, .int .i64 0, .int .i64 0, .int .i64 0, .int .i64 0, .int .i64 0, .int .i64 0, .int .i64 0, .int .i64 0, .int .i64 0, .int .i64 0, .int .i64 0, .int .i64 0, .int .i64 0, .int .i64 0, .int .i64 0, .int .i64 0, .int .i64 0, .int .i64 0, .int .i64 0, .int .i64 0, .int .i64 0, .int .i64 0] 81)) w1.heap.size 0 (fun _ => 0) (fun _ => 0)) := Lib.hid (Bkw.fresh (by refine ⟨?_, ?_, ?_, ?_, ?_, ?_, ?_, ?_, ?_, ?_, ?_, ?_, ?_, ?_, ?_, ?_, ?_, ?_, ?_, ?_, ?_, ?_, ?_, ?_, ?_, ?_, ?_, ?_, ?_, ?_, ?_⟩ <;> go_cell) (by refine ⟨?_, ?_, ?_, ?_, ?_, ?_, ?_, ?_, ?_, ?_, ?_, ?_, ?_, ?_, ?_, ?_, ?_, ?_, ?_, ?_, ?_, ?_, ?_, ?_, ?_, ?_, ?_, ?_, ?_, ?_, ?_⟩ <;> go_cell))
  have hb2 : Below w1.heap.size w1 (w1.alloc (Obj.cells #[.int .i64 0, .int .i64 0, .int .i64 0, .int .i64 0, .int .i64 0, .int .i64 0, .int .i64 0, .int .i64 0, .int .i64 0, .int .i64 0, .int .i64 0, .int .i64 0, .int .i64 0, .int .i64 0, .int .i64 0, .int .i64 0, .int .i64 0, .int .i64 0, .int .i64 0, .int .i64 0, .int .i64 0, .int .i64 0, .int .i64 0, .int .i64 0, .int .i64 0, .int .i64 0, .int .i64 0, .int .i64 0, .int .i64 0, .int .i64 0, .int .i64 0] 81)) := (Below.refl _ _).alloc (Nat.le_refl _) _
  have hB2 : Below w.heap.size w (w1.alloc (Obj.cells #[.int .i64 0, .int .i64 0, .int .i64 0, .int .i64 0, .int .i64 0, .int .i64 0, .int .i64 0, .int .i64 0, .int .i64 0, .int .i64 0, .int .i64 0, .int .i64 0, .int .i64 0, .int .i64 0, .int .i64 0, .int .i64 0, .int .i64 0, .int .i64 0, .int .i64 0, .int .i64 0, .int .i64 0, .int .i64 0, .int .i64 0, .int .i64 0, .int .i64 0, .int .i64 0, .int .i64 0, .int .i64 0, .int .i64 0, .int .i64 0, .int .i64 0] 81)) := hB1.trans (hb2.mono hB1.size)
  refine wpList_step (fun K hK => ?_); go_simp; refine hK _ _ ?_; clear hK K
  refine wpList_step (fun K hK => ?_); go_simp; refine hK _ _ ?_; clear hK K
  refine wpList_step (fun K hK => ?_); go_simp; refine hK _ _ ?_; clear hK K
  refine wpList_step (fun K hK => ?_); go_simp; refine hK _ _ ?_; clear hK K
  generalize (w1.alloc (Obj.cells #[.int .i64 0, .int .i64 0, .int .i64 0, .int .i64 0, .int .i64 0, .int .i64 0, .int .i64 0, .int .i64 0, .int .i64 0, .int .i64 0, .int .i64 0, .int .i64 0, .int .i64 0, .int .i64 0, .int .i64 0, .int .i64 0, .int .i64 0, .int .i64 0, .int .i64 0, .int .i64 0, .int .i64 0, .int .i64 0, .int .i64 0, .int .i64 0, .int .i64 0, .int .i64 0, .int .i64 0, .int .i64 0, .int .i64 0, .int .i64 0, .int .i64 0] 81)) = W2 at *
  have HTH : Hid (W2.there w1.heap.size 0 (bkL N (gnL N N F) (rhL N N 0 F)).toArray.size) := Lib.hid HBK2.out.there
  (refine wpList_store_mid rfl 81 _ _ rfl w1.heap.size 0 (bkL N (gnL N N F) (rhL N N 0 F)).toArray rfl rfl HTH.out (infoBk N (gnL N N F) (rhL N N 0 F)) (all_oneCell_toArray (bkL_one N (gnL N N F) (rhL N N 0 F))) ?_)
  have HM3 : Hid (Bkw (W2.setCells w1.heap.size 0 (bkL N (gnL N N F) (rhL N N 0 F)).toArray.toList) w1.heap.size N (gnL N N F) (rhL N N 0 F)) := Lib.hid (by rw [List.toList_toArray]; exact HBK2.out.whole)
  have HB3 : Hid (Below w.heap.size w (W2.setCells w1.heap.size 0 (bkL N (gnL N N F) (rhL N N 0 F)).toArray.toList)) := Lib.hid (below_setCells hB2 hB1.size _ _)
  generalize W2.setCells w1.heap.size 0 (bkL N (gnL N N F) (rhL N N 0 F)).toArray.toList = W3 at *
  have hs3 : w1.heap.size < W3.heap.size := World.block_lt_of_cell? _ _ HM3.out.1.1
  clear HTH HBK2 hb2 hB2 hB1
  generalize w1.heap.size = g at *
  refine wpList_step (fun K hK => ?_); go_simp; refine hK _ _ ?_; clear hK K
  refine wpList_nil ?_
  have hc0 := HM3.out.1.1
  go_wp2_with fail
  refine (arePhases_any m dap bo B N _ hm (HI.out.keep (HB3.out.mono (Nat.le_refl _)))).mono ?_
  rw [HBB.out]
  rintro e w4 ⟨rfl, hb⟩
  have HM4 := Lib.hid (HM3.out.keep hb)
  have HB4 := Lib.hid (HB3.out.trans (hb.mono HB3.out.size))
  have hs4 : g < w4.heap.size := World.block_lt_of_cell? _ _ HM4.out.1.1
  clear hb hc0 HM3 HB3 hs3
  cases bb with
  | false =>
    have HE : Hid (lsE N l F m B k C = 2) := Lib.hid (ls_arg HOK.out (by rw [HBB.out]; rfl))
    have hbl := HB4.out
    clear HM4 HB4
    go_wp2_with fail
    refine bodyPost_ret (v := .tuple #[.slice none 0 0, .int .i64 2]) (by simp [results, Try.results35, go_sem, *]) rfl ⟨lsR_no HE.out (by decide), by go_grown⟩
  | true =>
  have hc0 := HM4.out.1.1
  go_wp2_with fail
  refine (arePowers_any k fap co C N _ hk (HJ.out.keep (HB4.out.mono (Nat.le_refl _)))).mono ?_
  rw [HBC.out]
  rintro e w5 ⟨rfl, hb⟩
  have HM5 := Lib.hid (HM4.out.keep hb)
  have HB5 := Lib.hid (HB4.out.trans (hb.mono HB4.out.size))
  have hs5 : g < w5.heap.size := World.block_lt_of_cell? _ _ HM5.out.1.1
  clear hb hc0 HM4 HB4 hs4
  cases bc with
  | false =>
    have HE : Hid (lsE N l F m B k C = 2) := Lib.hid (ls_arg HOK.out (by rw [HBB.out, HBC.out]; rfl))
    have hbl := HB5.out
    clear HM5 HB5
    go_wp2_with fail
    refine bodyPost_ret (v := .tuple #[.slice none 0 0, .int .i64 2]) (by simp [results, Try.results35, go_sem, *]) rfl ⟨lsR_no HE.out (by decide), by go_grown⟩
  | true =>
  have HE : Hid (lsE N l F m B k C = 0) := Lib.hid (ls_ok HOK.out (by rw [HBB.out, HBC.out]; rfl))
  have HBI : Hid (∀ j, j < N → -1000000 ≤ B j ∧ B j ≤ 1000000) := Lib.hid (fun j hj => (inB_iff.1 HBB.out).2 j (by have := (inB_iff.1 HBB.out).1; omega))
  have HCI : Hid (∀ j, j < N → 0 ≤ C j ∧ C j ≤ 1000) := Lib.hid (fun j hj => (inB_iff.1 HBC.out).2 j (by have := (inB_iff.1 HBC.out).1; omega))
  have hmN : N = m := by have := (inB_iff.1 HBB.out).1; omega
  have hkN : N = k := by have := (inB_iff.1 HBC.out).1; omega
  subst hmN
  subst hkN
  clear hm hk
  have HPB : Hid (∀ i, i < 5 → (padI N B i).natAbs ≤ 1000000) := Lib.hid (fun i _ => by
    unfold padI
    split
    · have := HBI.out i (by assumption); omega
    · decide)
  go_upto_region 6 with fail
  have HMK : Hid (∀ w', Below w5.heap.size w5 w' → Bkw w' g N (gnL N N F) (rhL N N 0 F)) := Lib.hid (fun w' hb => HM5.out.keep hb)
  have D0 : Below w5.heap.size w5 w5.drew := (Below.refl _ _).drew
  go_cut [10] (fun v10 wx => ∃ b10 : Nat, v10 = .pointer (some ⟨b10, 0, none⟩) ∧ w5.heap.size ≤ b10 ∧ b10 < wx.heap.size ∧ Hid (Liw wx b10 (fun i => timL N (gnL N N F) (padI N C) N 0 i - padI N B i)) ∧ Below w5.heap.size w5 wx)
  case first =>
    refine wp_region_held_drew (S := fun w' => Bkw w' g N (gnL N N F) (rhL N N 0 F)) (by kernel_rfl) (HMK.out _ D0) (fun hHeld => ?_)
    refine wpAnyH_take (i := 0) (oi := _) (v := _) rfl (by kernel_rfl) (by kernel_rfl) (by kernel_rfl) (fun _ _ _ h => h) (yieldsIf_load_mid (by rfl) 81 _ rfl g 0 rfl (bkL N (gnL N N F) (rhL N N 0 F)) _ (fun _ h => Bkw.range h) Try.underlying81 rfl (infoBk _ _ _)) (by assumption) ?_
    try change wpAnyH _ _ _ _ _ _ _ (Act.put _ (some 33) _) _
    try simp only [act_all]
    refine wpAnyH_take (i := 1) (oi := _) (v := ?_) rfl (by kernel_rfl) (by kernel_rfl) (by kernel_rfl) (fun _ _ _ h => h) (Or.inl ⟨by rfl, ?_⟩) (by assumption) ?_
    rotate_left
    · intro w hSw; go_simp; (try with_reducible rfl)
    try change wpAnyH _ _ _ _ _ _ _ (Act.put _ (some 34) _) _
    try simp only [act_all]
    refine wpAnyH_take (i := 3) (oi := _) (v := ?_) rfl (by kernel_rfl) (by kernel_rfl) (by kernel_rfl) (fun _ _ _ h => h) (Or.inl ⟨by rfl, ?_⟩) (by assumption) ?_
    rotate_left
    · intro w hSw; go_simp; (try with_reducible rfl)
    try change wpAnyH _ _ _ _ _ _ _ (Act.put _ (some 36) _) _
    try simp only [act_all]
    refine wpAnyH_ready (rs := [2, 6]) (by kernel_rfl) (by simp) ?_
    refine AllReadyH.cons (o := _) rfl (fun K hK => ?_) ?_
    · go_simp
      refine (held_any N dap bo B _ hN5 (HI.out.keep (HB5.out.trans (D0.mono HB5.out.size)))).mono ?_
      rintro e v1 ⟨rfl, hb⟩
      have Dv1 : Below w5.heap.size w5 v1 := D0.trans (hb.mono D0.size)
      clear hb
      refine hK.out _ _ (HMK.out _ Dv1) (fun hHeld => ?_)
      clear hK K
      try simp only [act_all]
      refine wpAnyH_ready (rs := [4, 6]) (by kernel_rfl) (by simp) ?_
      refine AllReadyH.cons (o := _) rfl (fun K hK => ?_) ?_
      · go_simp
        refine (held_any N fap co C _ hN5 (HJ.out.keep (HB5.out.trans (Dv1.mono HB5.out.size)))).mono ?_
        rintro e v2 ⟨rfl, hb⟩
        have Dv2 : Below w5.heap.size w5 v2 := Dv1.trans (hb.mono Dv1.size)
        clear hb
        refine hK.out _ _ (HMK.out _ Dv2) (fun hHeld => ?_)
        clear hK K
        try simp only [act_all]
        refine wpAnyH_ready (rs := [5, 6]) (by kernel_rfl) (by simp) ?_
        refine AllReadyH.cons (o := _) rfl (fun K hK => ?_) ?_
        · go_simp
          refine (off_any N (gnL N N F) (rhL N N 0 F) (padI N B) (padI N C) _ hN5 (gnp_bd HF.out HCI.out) HPB.out).mono ?_
          rintro e v3 ⟨rfl, hb⟩
          have Dv3 : Below w5.heap.size w5 v3 := Dv2.trans (hb.mono Dv2.size)
          clear hb
          refine hK.out _ _ (HMK.out _ Dv3) (fun hHeld => ?_)
          clear hK K
          try simp only [act_all]
          refine wpAnyH_ready (rs := [6]) (by kernel_rfl) (by simp) ?_
          refine AllReadyH.cons (o := _) rfl (fun K hK => ?_) AllReadyH.nil
          go_simp
          have Da4 : Below w5.heap.size w5 (v3.alloc (Obj.cells #[.int .i64 0, .int .i64 0, .int .i64 0, .int .i64 0, .int .i64 0] 74)) := bal Dv3 _
          have HAa4 : Hid (Intw (v3.alloc (Obj.cells #[.int .i64 0, .int .i64 0, .int .i64 0, .int .i64 0, .int .i64 0] 74)) (v3.heap.size) 5 (fun _ => 0)) := Lib.hid (fun j hj => by rcases (show j = 0 ∨ j = 1 ∨ j = 2 ∨ j = 3 ∨ j = 4 by omega) with rfl | rfl | rfl | rfl | rfl <;> exact ⟨by go_cell, by go_cell⟩)
          have hla4 : v3.heap.size < (v3.alloc (Obj.cells #[.int .i64 0, .int .i64 0, .int .i64 0, .int .i64 0, .int .i64 0] 74)).heap.size := by simp
          have hga4 : w5.heap.size ≤ v3.heap.size := Dv3.size
          refine hK.out _ _ (HMK.out _ Da4) (fun hHeld => ?_)
          clear hK K
          try simp only [act_all]
          refine wpAnyH_ready (rs := [7]) (by kernel_rfl) (by simp) ?_
          refine AllReadyH.cons (o := _) rfl (fun K hK => ?_) AllReadyH.nil
          try unfold liV
          obtain ⟨⟨p0, r0⟩, ⟨p1, r1⟩, ⟨p2, r2⟩, ⟨p3, r3⟩, ⟨p4, r4⟩⟩ : _ ∧ _ ∧ _ ∧ _ ∧ _ := ⟨HAa4.out 0 (by omega), HAa4.out 1 (by omega), HAa4.out 2 (by omega), HAa4.out 3 (by omega), HAa4.out 4 (by omega)⟩
          go_simp
          have DS : Below w5.heap.size w5 (v3.alloc (Obj.cells #[.int .i64 (timL N (gnL N N F) (padI N C) N 0 0 - padI N B 0), .int .i64 (timL N (gnL N N F) (padI N C) N 0 1 - padI N B 1), .int .i64 (timL N (gnL N N F) (padI N C) N 0 2 - padI N B 2), .int .i64 (timL N (gnL N N F) (padI N C) N 0 3 - padI N B 3), .int .i64 (timL N (gnL N N F) (padI N C) N 0 4 - padI N B 4)] 74)) := bal Dv3 _
          refine hK.out _ _ (HMK.out _ DS) (fun hHeld => ?_)
          clear hK K
          try simp only [act_all]
          refine wpAnyH_done (by kernel_rfl) ?_ _
          have hLw : Liw (v3.alloc (Obj.cells #[.int .i64 (timL N (gnL N N F) (padI N C) N 0 0 - padI N B 0), .int .i64 (timL N (gnL N N F) (padI N C) N 0 1 - padI N B 1), .int .i64 (timL N (gnL N N F) (padI N C) N 0 2 - padI N B 2), .int .i64 (timL N (gnL N N F) (padI N C) N 0 3 - padI N B 3), .int .i64 (timL N (gnL N N F) (padI N C) N 0 4 - padI N B 4)] 74)) v3.heap.size (fun i => timL N (gnL N N F) (padI N C) N 0 i - padI N B i) := fun j hj => by (try simp only []); rcases (show j = 0 ∨ j = 1 ∨ j = 2 ∨ j = 3 ∨ j = 4 by omega) with rfl | rfl | rfl | rfl | rfl <;> go_cell
          have hlt9 : v3.heap.size < (v3.alloc (Obj.cells #[.int .i64 (timL N (gnL N N F) (padI N C) N 0 0 - padI N B 0), .int .i64 (timL N (gnL N N F) (padI N C) N 0 1 - padI N B 1), .int .i64 (timL N (gnL N N F) (padI N C) N 0 2 - padI N B 2), .int .i64 (timL N (gnL N N F) (padI N C) N 0 3 - padI N B 3), .int .i64 (timL N (gnL N N F) (padI N C) N 0 4 - padI N B 4)] 74)).heap.size := by have := hla4; first | exact World.block_lt_of_cell? _ _ (hLw 0 (by omega)) | (simpa using this)
          have HLw := Lib.hid hLw
          clear hLw p0 p1 p2 p3 p4 r0 r1 r2 r3 r4
          go_wp2_with fail
          go_meet
          exact ⟨_, rfl, hga4, hlt9, HLw, DS⟩
        refine AllReadyH.cons (o := _) rfl (fun K hK => ?_) AllReadyH.nil
        go_simp
        have Da5 : Below w5.heap.size w5 (v2.alloc (Obj.cells #[.int .i64 0, .int .i64 0, .int .i64 0, .int .i64 0, .int .i64 0] 74)) := bal Dv2 _
        have HAa5 : Hid (Intw (v2.alloc (Obj.cells #[.int .i64 0, .int .i64 0, .int .i64 0, .int .i64 0, .int .i64 0] 74)) (v2.heap.size) 5 (fun _ => 0)) := Lib.hid (fun j hj => by rcases (show j = 0 ∨ j = 1 ∨ j = 2 ∨ j = 3 ∨ j = 4 by omega) with rfl | rfl | rfl | rfl | rfl <;> exact ⟨by go_cell, by go_cell⟩)
        have hla5 : v2.heap.size < (v2.alloc (Obj.cells #[.int .i64 0, .int .i64 0, .int .i64 0, .int .i64 0, .int .i64 0] 74)).heap.size := by simp
        have hga5 : w5.heap.size ≤ v2.heap.size := Dv2.size
        refine hK.out _ _ (HMK.out _ Da5) (fun hHeld => ?_)
        clear hK K
        try simp only [act_all]
        refine wpAnyH_ready (rs := [5]) (by kernel_rfl) (by simp) ?_
        refine AllReadyH.cons (o := _) rfl (fun K hK => ?_) AllReadyH.nil
        go_simp
        refine (off_any N (gnL N N F) (rhL N N 0 F) (padI N B) (padI N C) _ hN5 (gnp_bd HF.out HCI.out) HPB.out).mono ?_
        rintro e v6 ⟨rfl, hb⟩
        have Dv6 : Below w5.heap.size w5 v6 := Da5.trans (hb.mono Da5.size)
        have HAv6 := Lib.hid (HAa5.out.keep hb)
        have hlv6 : v2.heap.size < v6.heap.size := by have := hb.size; have := hla5; omega
        clear hb
        refine hK.out _ _ (HMK.out _ Dv6) (fun hHeld => ?_)
        clear hK K
        try simp only [act_all]
        refine wpAnyH_ready (rs := [7]) (by kernel_rfl) (by simp) ?_
        refine AllReadyH.cons (o := _) rfl (fun K hK => ?_) AllReadyH.nil
        try unfold liV
        obtain ⟨⟨p0, r0⟩, ⟨p1, r1⟩, ⟨p2, r2⟩, ⟨p3, r3⟩, ⟨p4, r4⟩⟩ : _ ∧ _ ∧ _ ∧ _ ∧ _ := ⟨HAv6.out 0 (by omega), HAv6.out 1 (by omega), HAv6.out 2 (by omega), HAv6.out 3 (by omega), HAv6.out 4 (by omega)⟩
        go_simp
        have DS : Below w5.heap.size w5 (((((v6.setCell ⟨v2.heap.size, 0, none⟩ (.int .i64 (timL N (gnL N N F) (padI N C) N 0 0 - padI N B 0))).setCell ⟨v2.heap.size, 1, none⟩ (.int .i64 (timL N (gnL N N F) (padI N C) N 0 1 - padI N B 1))).setCell ⟨v2.heap.size, 2, none⟩ (.int .i64 (timL N (gnL N N F) (padI N C) N 0 2 - padI N B 2))).setCell ⟨v2.heap.size, 3, none⟩ (.int .i64 (timL N (gnL N N F) (padI N C) N 0 3 - padI N B 3))).setCell ⟨v2.heap.size, 4, none⟩ (.int .i64 (timL N (gnL N N F) (padI N C) N 0 4 - padI N B 4))) := by have := hga5; have := hlv6; have := Dv6; go_grown
        refine hK.out _ _ (HMK.out _ DS) (fun hHeld => ?_)
        clear hK K
        try simp only [act_all]
        refine wpAnyH_done (by kernel_rfl) ?_ _
        have hLw : Liw (((((v6.setCell ⟨v2.heap.size, 0, none⟩ (.int .i64 (timL N (gnL N N F) (padI N C) N 0 0 - padI N B 0))).setCell ⟨v2.heap.size, 1, none⟩ (.int .i64 (timL N (gnL N N F) (padI N C) N 0 1 - padI N B 1))).setCell ⟨v2.heap.size, 2, none⟩ (.int .i64 (timL N (gnL N N F) (padI N C) N 0 2 - padI N B 2))).setCell ⟨v2.heap.size, 3, none⟩ (.int .i64 (timL N (gnL N N F) (padI N C) N 0 3 - padI N B 3))).setCell ⟨v2.heap.size, 4, none⟩ (.int .i64 (timL N (gnL N N F) (padI N C) N 0 4 - padI N B 4))) v2.heap.size (fun i => timL N (gnL N N F) (padI N C) N 0 i - padI N B i) := fun j hj => by (try simp only []); rcases (show j = 0 ∨ j = 1 ∨ j = 2 ∨ j = 3 ∨ j = 4 by omega) with rfl | rfl | rfl | rfl | rfl <;> go_cell
        have hlt9 : v2.heap.size < (((((v6.setCell ⟨v2.heap.size, 0, none⟩ (.int .i64 (timL N (gnL N N F) (padI N C) N 0 0 - padI N B 0))).setCell ⟨v2.heap.size, 1, none⟩ (.int .i64 (timL N (gnL N N F) (padI N C) N 0 1 - padI N B 1))).setCell ⟨v2.heap.size, 2, none⟩ (.int .i64 (timL N (gnL N N F) (padI N C) N 0 2 - padI N B 2))).setCell ⟨v2.heap.size, 3, none⟩ (.int .i64 (timL N (gnL N N F) (padI N C) N 0 3 - padI N B 3))).setCell ⟨v2.heap.size, 4, none⟩ (.int .i64 (timL N (gnL N N F) (padI N C) N 0 4 - padI N B 4))).heap.size := by have := hlv6; first | exact World.block_lt_of_cell? _ _ (hLw 0 (by omega)) | (simpa using this)
        have HLw := Lib.hid hLw
        clear hLw p0 p1 p2 p3 p4 r0 r1 r2 r3 r4
        go_wp2_with fail
        go_meet
        exact ⟨_, rfl, hga5, hlt9, HLw, DS⟩
      refine AllReadyH.cons (o := _) rfl (fun K hK => ?_) AllReadyH.nil
      go_simp
      have Da7 : Below w5.heap.size w5 (v1.alloc (Obj.cells #[.int .i64 0, .int .i64 0, .int .i64 0, .int .i64 0, .int .i64 0] 74)) := bal Dv1 _
      have HAa7 : Hid (Intw (v1.alloc (Obj.cells #[.int .i64 0, .int .i64 0, .int .i64 0, .int .i64 0, .int .i64 0] 74)) (v1.heap.size) 5 (fun _ => 0)) := Lib.hid (fun j hj => by rcases (show j = 0 ∨ j = 1 ∨ j = 2 ∨ j = 3 ∨ j = 4 by omega) with rfl | rfl | rfl | rfl | rfl <;> exact ⟨by go_cell, by go_cell⟩)
      have hla7 : v1.heap.size < (v1.alloc (Obj.cells #[.int .i64 0, .int .i64 0, .int .i64 0, .int .i64 0, .int .i64 0] 74)).heap.size := by simp
      have hga7 : w5.heap.size ≤ v1.heap.size := Dv1.size
      refine hK.out _ _ (HMK.out _ Da7) (fun hHeld => ?_)
      clear hK K
      try simp only [act_all]
      refine wpAnyH_ready (rs := [4]) (by kernel_rfl) (by simp) ?_
      refine AllReadyH.cons (o := _) rfl (fun K hK => ?_) AllReadyH.nil
      go_simp
      refine (held_any N fap co C _ hN5 (HJ.out.keep (HB5.out.trans (Da7.mono HB5.out.size)))).mono ?_
      rintro e v8 ⟨rfl, hb⟩
      have Dv8 : Below w5.heap.size w5 v8 := Da7.trans (hb.mono Da7.size)
      have HAv8 := Lib.hid (HAa7.out.keep hb)
      have hlv8 : v1.heap.size < v8.heap.size := by have := hb.size; have := hla7; omega
      clear hb
      refine hK.out _ _ (HMK.out _ Dv8) (fun hHeld => ?_)
      clear hK K
      try simp only [act_all]
      refine wpAnyH_ready (rs := [5]) (by kernel_rfl) (by simp) ?_
      refine AllReadyH.cons (o := _) rfl (fun K hK => ?_) AllReadyH.nil
      go_simp
      refine (off_any N (gnL N N F) (rhL N N 0 F) (padI N B) (padI N C) _ hN5 (gnp_bd HF.out HCI.out) HPB.out).mono ?_
      rintro e v9 ⟨rfl, hb⟩
      have Dv9 : Below w5.heap.size w5 v9 := Dv8.trans (hb.mono Dv8.size)
      have HAv9 := Lib.hid (HAv8.out.keep hb)
      have hlv9 : v1.heap.size < v9.heap.size := by have := hb.size; have := hlv8; omega
      clear hb
      refine hK.out _ _ (HMK.out _ Dv9) (fun hHeld => ?_)
      clear hK K
      try simp only [act_all]
      refine wpAnyH_ready (rs := [7]) (by kernel_rfl) (by simp) ?_
      refine AllReadyH.cons (o := _) rfl (fun K hK => ?_) AllReadyH.nil
      try unfold liV
      obtain ⟨⟨p0, r0⟩, ⟨p1, r1⟩, ⟨p2, r2⟩, ⟨p3, r3⟩, ⟨p4, r4⟩⟩ : _ ∧ _ ∧ _ ∧ _ ∧ _ := ⟨HAv9.out 0 (by omega), HAv9.out 1 (by omega), HAv9.out 2 (by omega), HAv9.out 3 (by omega), HAv9.out 4 (by omega)⟩
      go_simp
      have DS : Below w5.heap.size w5 (((((v9.setCell ⟨v1.heap.size, 0, none⟩ (.int .i64 (timL N (gnL N N F) (padI N C) N 0 0 - padI N B 0))).setCell ⟨v1.heap.size, 1, none⟩ (.int .i64 (timL N (gnL N N F) (padI N C) N 0 1 - padI N B 1))).setCell ⟨v1.heap.size, 2, none⟩ (.int .i64 (timL N (gnL N N F) (padI N C) N 0 2 - padI N B 2))).setCell ⟨v1.heap.size, 3, none⟩ (.int .i64 (timL N (gnL N N F) (padI N C) N 0 3 - padI N B 3))).setCell ⟨v1.heap.size, 4, none⟩ (.int .i64 (timL N (gnL N N F) (padI N C) N 0 4 - padI N B 4))) := by have := hga7; have := hlv9; have := Dv9; go_grown
      refine hK.out _ _ (HMK.out _ DS) (fun hHeld => ?_)
      clear hK K
      try simp only [act_all]
      refine wpAnyH_done (by kernel_rfl) ?_ _
      have hLw : Liw (((((v9.setCell ⟨v1.heap.size, 0, none⟩ (.int .i64 (timL N (gnL N N F) (padI N C) N 0 0 - padI N B 0))).setCell ⟨v1.heap.size, 1, none⟩ (.int .i64 (timL N (gnL N N F) (padI N C) N 0 1 - padI N B 1))).setCell ⟨v1.heap.size, 2, none⟩ (.int .i64 (timL N (gnL N N F) (padI N C) N 0 2 - padI N B 2))).setCell ⟨v1.heap.size, 3, none⟩ (.int .i64 (timL N (gnL N N F) (padI N C) N 0 3 - padI N B 3))).setCell ⟨v1.heap.size, 4, none⟩ (.int .i64 (timL N (gnL N N F) (padI N C) N 0 4 - padI N B 4))) v1.heap.size (fun i => timL N (gnL N N F) (padI N C) N 0 i - padI N B i) := fun j hj => by (try simp only []); rcases (show j = 0 ∨ j = 1 ∨ j = 2 ∨ j = 3 ∨ j = 4 by omega) with rfl | rfl | rfl | rfl | rfl <;> go_cell
      have hlt9 : v1.heap.size < (((((v9.setCell ⟨v1.heap.size, 0, none⟩ (.int .i64 (timL N (gnL N N F) (padI N C) N 0 0 - padI N B 0))).setCell ⟨v1.heap.size, 1, none⟩ (.int .i64 (timL N (gnL N N F) (padI N C) N 0 1 - padI N B 1))).setCell ⟨v1.heap.size, 2, none⟩ (.int .i64 (timL N (gnL N N F) (padI N C) N 0 2 - padI N B 2))).setCell ⟨v1.heap.size, 3, none⟩ (.int .i64 (timL N (gnL N N F) (padI N C) N 0 3 - padI N B 3))).setCell ⟨v1.heap.size, 4, none⟩ (.int .i64 (timL N (gnL N N F) (padI N C) N 0 4 - padI N B 4))).heap.size := by have := hlv9; first | exact World.block_lt_of_cell? _ _ (hLw 0 (by omega)) | (simpa using this)
      have HLw := Lib.hid hLw
      clear hLw p0 p1 p2 p3 p4 r0 r1 r2 r3 r4
      go_wp2_with fail
      go_meet
      exact ⟨_, rfl, hga7, hlt9, HLw, DS⟩
    refine AllReadyH.cons (o := _) rfl (fun K hK => ?_) AllReadyH.nil
    go_simp
    have Da10 : Below w5.heap.size w5 (w5.drew.alloc (Obj.cells #[.int .i64 0, .int .i64 0, .int .i64 0, .int .i64 0, .int .i64 0] 74)) := bal D0 _
    have HAa10 : Hid (Intw (w5.drew.alloc (Obj.cells #[.int .i64 0, .int .i64 0, .int .i64 0, .int .i64 0, .int .i64 0] 74)) (w5.heap.size) 5 (fun _ => 0)) := Lib.hid (fun j hj => by rcases (show j = 0 ∨ j = 1 ∨ j = 2 ∨ j = 3 ∨ j = 4 by omega) with rfl | rfl | rfl | rfl | rfl <;> exact ⟨by go_cell, by go_cell⟩)
    have hla10 : w5.heap.size < (w5.drew.alloc (Obj.cells #[.int .i64 0, .int .i64 0, .int .i64 0, .int .i64 0, .int .i64 0] 74)).heap.size := by simp
    have hga10 : w5.heap.size ≤ w5.heap.size := D0.size
    refine hK.out _ _ (HMK.out _ Da10) (fun hHeld => ?_)
    clear hK K
    try simp only [act_all]
    refine wpAnyH_ready (rs := [2]) (by kernel_rfl) (by simp) ?_
    refine AllReadyH.cons (o := _) rfl (fun K hK => ?_) AllReadyH.nil
    go_simp
    refine (held_any N dap bo B _ hN5 (HI.out.keep (HB5.out.trans (Da10.mono HB5.out.size)))).mono ?_
    rintro e v11 ⟨rfl, hb⟩
    have Dv11 : Below w5.heap.size w5 v11 := Da10.trans (hb.mono Da10.size)
    have HAv11 := Lib.hid (HAa10.out.keep hb)
    have hlv11 : w5.heap.size < v11.heap.size := by have := hb.size; have := hla10; omega
    clear hb
    refine hK.out _ _ (HMK.out _ Dv11) (fun hHeld => ?_)
    clear hK K
    try simp only [act_all]
    refine wpAnyH_ready (rs := [4]) (by kernel_rfl) (by simp) ?_
    refine AllReadyH.cons (o := _) rfl (fun K hK => ?_) AllReadyH.nil
    go_simp
    refine (held_any N fap co C _ hN5 (HJ.out.keep (HB5.out.trans (Dv11.mono HB5.out.size)))).mono ?_
    rintro e v12 ⟨rfl, hb⟩
    have Dv12 : Below w5.heap.size w5 v12 := Dv11.trans (hb.mono Dv11.size)
    have HAv12 := Lib.hid (HAv11.out.keep hb)
    have hlv12 : w5.heap.size < v12.heap.size := by have := hb.size; have := hlv11; omega
    clear hb
    refine hK.out _ _ (HMK.out _ Dv12) (fun hHeld => ?_)
    clear hK K
    try simp only [act_all]
    refine wpAnyH_ready (rs := [5]) (by kernel_rfl) (by simp) ?_
    refine AllReadyH.cons (o := _) rfl (fun K hK => ?_) AllReadyH.nil
    go_simp
    refine (off_any N (gnL N N F) (rhL N N 0 F) (padI N B) (padI N C) _ hN5 (gnp_bd HF.out HCI.out) HPB.out).mono ?_
    rintro e v13 ⟨rfl, hb⟩
    have Dv13 : Below w5.heap.size w5 v13 := Dv12.trans (hb.mono Dv12.size)
    have HAv13 := Lib.hid (HAv12.out.keep hb)
    have hlv13 : w5.heap.size < v13.heap.size := by have := hb.size; have := hlv12; omega
    clear hb
    refine hK.out _ _ (HMK.out _ Dv13) (fun hHeld => ?_)
    clear hK K
    try simp only [act_all]
    refine wpAnyH_ready (rs := [7]) (by kernel_rfl) (by simp) ?_
    refine AllReadyH.cons (o := _) rfl (fun K hK => ?_) AllReadyH.nil
    try unfold liV
    obtain ⟨⟨p0, r0⟩, ⟨p1, r1⟩, ⟨p2, r2⟩, ⟨p3, r3⟩, ⟨p4, r4⟩⟩ : _ ∧ _ ∧ _ ∧ _ ∧ _ := ⟨HAv13.out 0 (by omega), HAv13.out 1 (by omega), HAv13.out 2 (by omega), HAv13.out 3 (by omega), HAv13.out 4 (by omega)⟩
    go_simp
    have DS : Below w5.heap.size w5 (((((v13.setCell ⟨w5.heap.size, 0, none⟩ (.int .i64 (timL N (gnL N N F) (padI N C) N 0 0 - padI N B 0))).setCell ⟨w5.heap.size, 1, none⟩ (.int .i64 (timL N (gnL N N F) (padI N C) N 0 1 - padI N B 1))).setCell ⟨w5.heap.size, 2, none⟩ (.int .i64 (timL N (gnL N N F) (padI N C) N 0 2 - padI N B 2))).setCell ⟨w5.heap.size, 3, none⟩ (.int .i64 (timL N (gnL N N F) (padI N C) N 0 3 - padI N B 3))).setCell ⟨w5.heap.size, 4, none⟩ (.int .i64 (timL N (gnL N N F) (padI N C) N 0 4 - padI N B 4))) := by have := hga10; have := hlv13; have := Dv13; go_grown
    refine hK.out _ _ (HMK.out _ DS) (fun hHeld => ?_)
    clear hK K
    try simp only [act_all]
    refine wpAnyH_done (by kernel_rfl) ?_ _
    have hLw : Liw (((((v13.setCell ⟨w5.heap.size, 0, none⟩ (.int .i64 (timL N (gnL N N F) (padI N C) N 0 0 - padI N B 0))).setCell ⟨w5.heap.size, 1, none⟩ (.int .i64 (timL N (gnL N N F) (padI N C) N 0 1 - padI N B 1))).setCell ⟨w5.heap.size, 2, none⟩ (.int .i64 (timL N (gnL N N F) (padI N C) N 0 2 - padI N B 2))).setCell ⟨w5.heap.size, 3, none⟩ (.int .i64 (timL N (gnL N N F) (padI N C) N 0 3 - padI N B 3))).setCell ⟨w5.heap.size, 4, none⟩ (.int .i64 (timL N (gnL N N F) (padI N C) N 0 4 - padI N B 4))) w5.heap.size (fun i => timL N (gnL N N F) (padI N C) N 0 i - padI N B i) := fun j hj => by (try simp only []); rcases (show j = 0 ∨ j = 1 ∨ j = 2 ∨ j = 3 ∨ j = 4 by omega) with rfl | rfl | rfl | rfl | rfl <;> go_cell
    have hlt9 : w5.heap.size < (((((v13.setCell ⟨w5.heap.size, 0, none⟩ (.int .i64 (timL N (gnL N N F) (padI N C) N 0 0 - padI N B 0))).setCell ⟨w5.heap.size, 1, none⟩ (.int .i64 (timL N (gnL N N F) (padI N C) N 0 1 - padI N B 1))).setCell ⟨w5.heap.size, 2, none⟩ (.int .i64 (timL N (gnL N N F) (padI N C) N 0 2 - padI N B 2))).setCell ⟨w5.heap.size, 3, none⟩ (.int .i64 (timL N (gnL N N F) (padI N C) N 0 3 - padI N B 3))).setCell ⟨w5.heap.size, 4, none⟩ (.int .i64 (timL N (gnL N N F) (padI N C) N 0 4 - padI N B 4))).heap.size := by have := hlv13; first | exact World.block_lt_of_cell? _ _ (hLw 0 (by omega)) | (simpa using this)
    have HLw := Lib.hid hLw
    clear hLw p0 p1 p2 p3 p4 r0 r1 r2 r3 r4
    go_wp2_with fail
    go_meet
    exact ⟨_, rfl, hga10, hlt9, HLw, DS⟩
  case rest =>
    obtain ⟨b10, rfl, hb10, hl10, HT, hD⟩ := hcut
    have HMc := Lib.hid (HM5.out.keep hD)
    have HBc := Lib.hid (HB5.out.trans (hD.mono HB5.out.size))
    have hbl := HBc.out
    have hc0 := HMc.out.1.1
    have n0 : (0 : Int) ≤ (N : Int) := by omega
    have n5 : (N : Int) ≤ 5 := by omega
    clear hD HMK HM5 HB5 hs5
    go_wp2_with fail
    refine (clone_any N 5 b10 0 (ofL N F B C) _ hN1 (by omega) (fun i hi => by
      have h := HT.out i (by omega)
      have hp : padI N B i = B i := by unfold padI; rw [if_pos hi]
      dsimp only at h
      rw [timL_he hi hN5, hp] at h
      rw [Nat.zero_add]
      exact h)).mono ?_
    rintro e w7 ⟨⟨g7, cap7, rfl, hw7, _⟩, hb⟩
    have hbl7 := hbl.trans (hb.mono hbl.size)
    have HW7 := Lib.hid hw7
    clear hb hw7 hbl
    go_wp2_with fail
    refine bodyPost_ret (v := .tuple #[.slice (some ⟨g7, 0, none⟩) N cap7, .int .i64 0]) (by simp [results, Try.results35, go_sem]) rfl ⟨lsR_ok HE.out HW7.out, hbl7⟩
end Go.Proofs.Ytdhlikedjephmaa
