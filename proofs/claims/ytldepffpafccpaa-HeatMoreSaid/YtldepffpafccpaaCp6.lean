import Derived.Test.YtldepffpafccpaaCh6
namespace Go.Proofs.Ytldepffpafccpaa
open Go.RowKit Heat
/-- Do powers turn no guide wrongly by more than s? -/
def nearF (N : Nat) (F : Nat → Nat → Int) (B : Nat → Int) (s : Int) (p : Nat → Int) : Bool := inTo (fun i => timL N (gnL N N F) p N 0 i - padI N B i) (-s) s 5
/-- The cheapest powers. -/
def chP (N : Nat) (F : Nat → Nat → Int) (B : Nat → Int) (s top : Int) : Option (Nat → Int) := chT (nearF N F B s) N top 9300
def chE (N : Nat) (l : Nat → Nat) (F : Nat → Nat → Int) (m : Nat) (B : Nat → Int) (s top : Int) : Int :=
  if okG N l F = true then (if (inB m B N (-1000000) 1000000 && decide (0 ≤ s ∧ s ≤ 1000000) && decide (0 ≤ top ∧ top ≤ 20)) = true then (if N ≤ 3 then (if (chP N F B s top).isSome = true then 0 else 62) else 4) else 2) else 60
theorem ch_no {N : Nat} {l : Nat → Nat} {F : Nat → Nat → Int} {m : Nat} {B : Nat → Int} {s top : Int} (h : okG N l F = false) : chE N l F m B s top = 60 := by unfold chE; rw [h]; rfl
theorem ch_arg {N : Nat} {l : Nat → Nat} {F : Nat → Nat → Int} {m : Nat} {B : Nat → Int} {s top : Int} (h : okG N l F = true) (h2 : (inB m B N (-1000000) 1000000 && decide (0 ≤ s ∧ s ≤ 1000000) && decide (0 ≤ top ∧ top ≤ 20)) = false) : chE N l F m B s top = 2 := by unfold chE; rw [h, h2]; rfl
theorem ch_lim {N : Nat} {l : Nat → Nat} {F : Nat → Nat → Int} {m : Nat} {B : Nat → Int} {s top : Int} (h : okG N l F = true) (h2 : (inB m B N (-1000000) 1000000 && decide (0 ≤ s ∧ s ≤ 1000000) && decide (0 ≤ top ∧ top ≤ 20)) = true) (h3 : ¬ N ≤ 3) : chE N l F m B s top = 4 := by unfold chE; rw [h, h2, if_pos rfl, if_pos rfl, if_neg h3]
theorem ch_end {N : Nat} {l : Nat → Nat} {F : Nat → Nat → Int} {m : Nat} {B : Nat → Int} {s top : Int} (h : okG N l F = true) (h2 : (inB m B N (-1000000) 1000000 && decide (0 ≤ s ∧ s ≤ 1000000) && decide (0 ≤ top ∧ top ≤ 20)) = true) (h3 : N ≤ 3) : chE N l F m B s top = if (chP N F B s top).isSome = true then 0 else 62 := by unfold chE; rw [h, h2, if_pos rfl, if_pos rfl, if_pos h3]
theorem arg3 {b : Bool} {s top : Int} (hb : b = true) (h1 : 0 ≤ s) (h2 : s ≤ 1000000) (h3 : 0 ≤ top) (h4 : top ≤ 20) : (b && decide (0 ≤ s ∧ s ≤ 1000000) && decide (0 ≤ top ∧ top ≤ 20)) = true := by
  rw [hb, decide_eq_true ⟨h1, h2⟩, decide_eq_true ⟨h3, h4⟩]; rfl
theorem arg_s {b : Bool} {s top : Int} (h : ¬ (0 ≤ s ∧ s ≤ 1000000)) : (b && decide (0 ≤ s ∧ s ≤ 1000000) && decide (0 ≤ top ∧ top ≤ 20)) = false := by
  rw [decide_eq_false h, Bool.and_false, Bool.false_and]
theorem arg_t {b : Bool} {s top : Int} (h : ¬ (0 ≤ top ∧ top ≤ 20)) : (b && decide (0 ≤ s ∧ s ≤ 1000000) && decide (0 ≤ top ∧ top ≤ 20)) = false := by
  rw [decide_eq_false h, Bool.and_false]
theorem arg_b {b : Bool} {s top : Int} (h : b = false) : (b && decide (0 ≤ s ∧ s ≤ 1000000) && decide (0 ≤ top ∧ top ≤ 20)) = false := by rw [h]; rfl
/-- What comes back of Cheapest. -/
def ChR (w : World) (e : Ending) (N : Nat) (l : Nat → Nat) (F : Nat → Nat → Int) (m : Nat) (B : Nat → Int) (s top : Int) : Prop :=
  ∃ ao cap, e = .returned (.tuple #[.slice ao (if chE N l F m B s top = 0 then N else 0) cap, .int .i64 (chE N l F m B s top)]) ∧ Ints w ao (if chE N l F m B s top = 0 then N else 0) (opL (chP N F B s top))
theorem chR_no {w : World} {N : Nat} {l : Nat → Nat} {F : Nat → Nat → Int} {m : Nat} {B : Nat → Int} {s top : Int} {x : Int} (h : chE N l F m B s top = x) (h0 : x ≠ 0) : ChR w (.returned (.tuple #[.slice none 0 0, .int .i64 x])) N l F m B s top := by
  unfold ChR
  rw [h, if_neg h0]
  exact ⟨none, 0, rfl, fun h => absurd h (by omega)⟩
theorem chR_ok {w : World} {N : Nat} {l : Nat → Nat} {F : Nat → Nat → Int} {m : Nat} {B : Nat → Int} {s top : Int} {g cap : Nat} (h : chE N l F m B s top = 0) (hw : Intw w g N (opL (chP N F B s top))) : ChR w (.returned (.tuple #[.slice (some ⟨g, 0, none⟩) N cap, .int .i64 0])) N l F m B s top := by
  unfold ChR
  rw [h, if_pos rfl]
  exact ⟨_, cap, rfl, hw.ints⟩
set_option maxRecDepth 100000 in
set_option maxHeartbeats 8000000 in
theorem hCheapest_no (N cap : Nat) (ao : Option Addr) (A : Nat → Option Addr) (l c : Nat → Nat) (F : Nat → Nat → Int) (m dap : Nat) (bo : Option Addr) (B : Nat → Int) (s top : Int) (w : World) (hN : N ≤ 9223372036854775807) (hR : Rowsw w ao N A l c F) (hok : okG N l F = false) :
    Calls Try.prog 44 #[.agg #[.slice ao N cap], .slice bo m dap, .int .i64 s, .int .i64 top] w fun e w' => ChR w' e N l F m B s top ∧ Below w.heap.size w w' := by
  have HG := Lib.hid hR
  have HOK := Lib.hid hok
  clear hR hok
  have HE : Hid (chE N l F m B s top = 60) := Lib.hid (ch_no HOK.out)
  have hbx : (w.alloc (Obj.cells #[.slice ao N cap] 40)).cell? ⟨w.heap.size, 0, none⟩ = some (.slice ao N cap) := by go_cell
  have hb0 : Below w.heap.size w (w.alloc (Obj.cells #[.slice ao N cap] 40)) := by go_grown
  have hsz : w.heap.size < (w.alloc (Obj.cells #[.slice ao N cap] 40)).heap.size := by simp
  go_enter Try.func44, Try.ntmps44
  go_upto_region 1 with fail
  generalize (w.alloc (Obj.cells #[.slice ao N cap] 40)) = W at *
  have HB0 := Lib.hid hb0
  have HSZ := Lib.hid hsz
  clear hb0
  refine wp_region_lit ?_
  refine wpList_step (fun K hK => ?_); go_simp; refine hK _ _ ?_; clear hK K
  refine wpList_step (fun K hK => ?_); go_simp
  refine (read_no N cap ao A l c F _ hN (HG.out.keep (HB0.out.mono (Nat.le_refl _))) HOK.out).mono ?_
  rintro e w1 ⟨rfl, hb⟩
  have hB1 : Below w.heap.size w w1 := HB0.out.trans (hb.mono HB0.out.size)
  have hg : w.heap.size < w1.heap.size := by have h1 := hb.size; have h2 := HSZ.out; omega
  refine hK _ _ ?_; clear hK K
  clear hb hbx hsz HSZ HB0
  have HBK2 : Hid (Bkw (w1.alloc (Obj.cells #[.int .i64 0, .int .i64 0, .int .i64 0, .int .i64 0, .int .i64 0, .int .i64 0, .int .i64 0, .int .i64 0, .int .i64 0, .int .i64 0, .int .i64 0, .int .i64 0, .int .i64 0, .int .i64 0, .int .i64 0, .int .i64 0, .int .i64 0, .int .i64 0, .int .i64 0, .int .i64 0, .int .i64 0, .int .i64 0, .int .i64 0, .int .i64 0, .int .i64 0, .int .i64 0, .int .i64 0, .int .i64 0, .int .i64 0, .int .i64 0, .int .i64 0] 81)) w1.heap.size 0 (fun _ => 0) (fun _ => 0)) := Lib.hid (Bkw.fresh (by refine ⟨?_, ?_, ?_, ?_, ?_, ?_, ?_, ?_, ?_, ?_, ?_, ?_, ?_, ?_, ?_, ?_, ?_, ?_, ?_, ?_, ?_, ?_, ?_, ?_, ?_, ?_, ?_, ?_, ?_, ?_, ?_⟩ <;> go_cell) (by refine ⟨?_, ?_, ?_, ?_, ?_, ?_, ?_, ?_, ?_, ?_, ?_, ?_, ?_, ?_, ?_, ?_, ?_, ?_, ?_, ?_, ?_, ?_, ?_, ?_, ?_, ?_, ?_, ?_, ?_, ?_, ?_⟩ <;> go_cell))
  have hb2 : Below w1.heap.size w1 (w1.alloc (Obj.cells #[.int .i64 0, .int .i64 0, .int .i64 0, .int .i64 0, .int .i64 0, .int .i64 0, .int .i64 0, .int .i64 0, .int .i64 0, .int .i64 0, .int .i64 0, .int .i64 0, .int .i64 0, .int .i64 0, .int .i64 0, .int .i64 0, .int .i64 0, .int .i64 0, .int .i64 0, .int .i64 0, .int .i64 0, .int .i64 0, .int .i64 0, .int .i64 0, .int .i64 0, .int .i64 0, .int .i64 0, .int .i64 0, .int .i64 0, .int .i64 0, .int .i64 0] 81)) := (Below.refl _ _).alloc (Nat.le_refl _) _
  have hB2 : Below w.heap.size w (w1.alloc (Obj.cells #[.int .i64 0, .int .i64 0, .int .i64 0, .int .i64 0, .int .i64 0, .int .i64 0, .int .i64 0, .int .i64 0, .int .i64 0, .int .i64 0, .int .i64 0, .int .i64 0, .int .i64 0, .int .i64 0, .int .i64 0, .int .i64 0, .int .i64 0, .int .i64 0, .int .i64 0, .int .i64 0, .int .i64 0, .int .i64 0, .int .i64 0, .int .i64 0, .int .i64 0, .int .i64 0, .int .i64 0, .int .i64 0, .int .i64 0, .int .i64 0, .int .i64 0] 81)) := hB1.trans (hb2.mono hB1.size)
  refine wpList_step (fun K hK => ?_); go_simp; refine hK _ _ ?_; clear hK K
  refine wpList_step (fun K hK => ?_); go_simp; refine hK _ _ ?_; clear hK K
  refine wpList_step (fun K hK => ?_); go_simp; refine hK _ _ ?_; clear hK K
  refine wpList_step (fun K hK => ?_); go_simp; refine hK _ _ ?_; clear hK K
  generalize (w1.alloc (Obj.cells #[.int .i64 0, .int .i64 0, .int .i64 0, .int .i64 0, .int .i64 0, .int .i64 0, .int .i64 0, .int .i64 0, .int .i64 0, .int .i64 0, .int .i64 0, .int .i64 0, .int .i64 0, .int .i64 0, .int .i64 0, .int .i64 0, .int .i64 0, .int .i64 0, .int .i64 0, .int .i64 0, .int .i64 0, .int .i64 0, .int .i64 0, .int .i64 0, .int .i64 0, .int .i64 0, .int .i64 0, .int .i64 0, .int .i64 0, .int .i64 0, .int .i64 0] 81)) = W2 at *
  have HTH : Hid (W2.there w1.heap.size 0 (bkL 0 (fun _ => 0) (fun _ => 0)).toArray.size) := Lib.hid HBK2.out.there
  (refine wpList_store_mid rfl 81 _ _ rfl w1.heap.size 0 (bkL 0 (fun _ => 0) (fun _ => 0)).toArray rfl rfl HTH.out (infoBk 0 (fun _ => 0) (fun _ => 0)) (all_oneCell_toArray (bkL_one 0 (fun _ => 0) (fun _ => 0))) ?_)
  have HM3 : Hid (Bkw (W2.setCells w1.heap.size 0 (bkL 0 (fun _ => 0) (fun _ => 0)).toArray.toList) w1.heap.size 0 (fun _ => 0) (fun _ => 0)) := Lib.hid (by rw [List.toList_toArray]; exact HBK2.out.whole)
  have HB3 : Hid (Below w.heap.size w (W2.setCells w1.heap.size 0 (bkL 0 (fun _ => 0) (fun _ => 0)).toArray.toList)) := Lib.hid (below_setCells hB2 hB1.size _ _)
  generalize W2.setCells w1.heap.size 0 (bkL 0 (fun _ => 0) (fun _ => 0)).toArray.toList = W3 at *
  have hs3 : w1.heap.size < W3.heap.size := World.block_lt_of_cell? _ _ HM3.out.1.1
  clear HTH HBK2 hb2 hB2 hB1
  generalize w1.heap.size = g at *
  refine wpList_step (fun K hK => ?_); go_simp; refine hK _ _ ?_; clear hK K
  refine wpList_nil ?_
  have hbl := HB3.out
  clear HM3 HB3
  go_wp2_with fail
  refine bodyPost_ret (v := .tuple #[.slice none 0 0, .int .i64 60]) (by simp [results, Try.results44, go_sem, *]) rfl ⟨chR_no HE.out (by decide), by go_grown⟩
set_option maxRecDepth 100000 in
set_option maxHeartbeats 8000000 in
theorem hCheapest_ok (N cap : Nat) (ao : Option Addr) (A : Nat → Option Addr) (l c : Nat → Nat) (F : Nat → Nat → Int) (m dap : Nat) (bo : Option Addr) (B : Nat → Int) (s top : Int) (w : World) (hN : N ≤ 9223372036854775807) (hR : Rowsw w ao N A l c F) (hok : okG N l F = true) (hm : m ≤ 9223372036854775807) (hI : Ints w bo m B) :
    Calls Try.prog 44 #[.agg #[.slice ao N cap], .slice bo m dap, .int .i64 s, .int .i64 top] w fun e w' => ChR w' e N l F m B s top ∧ Below w.heap.size w w' := by
  have HG := Lib.hid hR
  have HOK := Lib.hid hok
  clear hR hok
  have hN5 := (okG_iff.1 HOK.out).1.2
  have hN1 := (okG_iff.1 HOK.out).1.1
  have HF : Hid (∀ i, i < N → ∀ j, j < N → -200 ≤ F i j ∧ F i j ≤ 200) := Lib.hid (fun i hi => ((okG_iff.1 HOK.out).2 i hi).2)
  have HI := Lib.hid hI
  clear hI
  obtain ⟨bb, hbb⟩ : ∃ bb, inB m B N (-1000000) 1000000 = bb := ⟨_, rfl⟩
  have HBB := Lib.hid hbb
  clear hbb
  have hbx : (w.alloc (Obj.cells #[.slice ao N cap] 40)).cell? ⟨w.heap.size, 0, none⟩ = some (.slice ao N cap) := by go_cell
  have hb0 : Below w.heap.size w (w.alloc (Obj.cells #[.slice ao N cap] 40)) := by go_grown
  have hsz : w.heap.size < (w.alloc (Obj.cells #[.slice ao N cap] 40)).heap.size := by simp
  go_enter Try.func44, Try.ntmps44
  go_upto_region 1 with fail
  generalize (w.alloc (Obj.cells #[.slice ao N cap] 40)) = W at *
  have HB0 := Lib.hid hb0
  have HSZ := Lib.hid hsz
  clear hb0
  refine wp_region_lit ?_
  refine wpList_step (fun K hK => ?_); go_simp; refine hK _ _ ?_; clear hK K
  refine wpList_step (fun K hK => ?_); go_simp
  refine (read_ok N cap ao A l c F _ hN (HG.out.keep (HB0.out.mono (Nat.le_refl _))) HOK.out).mono ?_
  rintro e w1 ⟨rfl, hb⟩
  have hB1 : Below w.heap.size w w1 := HB0.out.trans (hb.mono HB0.out.size)
  have hg : w.heap.size < w1.heap.size := by have h1 := hb.size; have h2 := HSZ.out; omega
  refine hK _ _ ?_; clear hK K
  clear hb hbx hsz HSZ HB0
  have HBK2 : Hid (Bkw (w1.alloc (Obj.cells #[.int .i64 0, .int .i64 0, .int .i64 0, .int .i64 0, .int .i64 0, .int .i64 0, .int .i64 0, .int .i64 0, .int .i64 0, .int .i64 0, .int .i64 0, .int .i64 0, .int .i64 0, .int .i64 0, .int .i64 0, .int .i64 0, .int .i64 0, .int .i64 0, .int .i64 0, .int .i64 0, .int .i64 0, .int .i64 0, .int .i64 0, .int .i64 0, .int .i64 0, .int .i64 0, .int .i64 0, .int .i64 0, .int .i64 0, .int .i64 0, .int .i64 0] 81)) w1.heap.size 0 (fun _ => 0) (fun _ => 0)) := Lib.hid (Bkw.fresh (by refine ⟨?_, ?_, ?_, ?_, ?_, ?_, ?_, ?_, ?_, ?_, ?_, ?_, ?_, ?_, ?_, ?_, ?_, ?_, ?_, ?_, ?_, ?_, ?_, ?_, ?_, ?_, ?_, ?_, ?_, ?_, ?_⟩ <;> go_cell) (by refine ⟨?_, ?_, ?_, ?_, ?_, ?_, ?_, ?_, ?_, ?_, ?_, ?_, ?_, ?_, ?_, ?_, ?_, ?_, ?_, ?_, ?_, ?_, ?_, ?_, ?_, ?_, ?_, ?_, ?_, ?_, ?_⟩ <;> go_cell))
  have hb2 : Below w1.heap.size w1 (w1.alloc (Obj.cells #[.int .i64 0, .int .i64 0, .int .i64 0, .int .i64 0, .int .i64 0, .int .i64 0, .int .i64 0, .int .i64 0, .int .i64 0, .int .i64 0, .int .i64 0, .int .i64 0, .int .i64 0, .int .i64 0, .int .i64 0, .int .i64 0, .int .i64 0, .int .i64 0, .int .i64 0, .int .i64 0, .int .i64 0, .int .i64 0, .int .i64 0, .int .i64 0, .int .i64 0, .int .i64 0, .int .i64 0, .int .i64 0, .int .i64 0, .int .i64 0, .int .i64 0] 81)) := (Below.refl _ _).alloc (Nat.le_refl _) _
  have hB2 : Below w.heap.size w (w1.alloc (Obj.cells #[.int .i64 0, .int .i64 0, .int .i64 0, .int .i64 0, .int .i64 0, .int .i64 0, .int .i64 0, .int .i64 0, .int .i64 0, .int .i64 0, .int .i64 0, .int .i64 0, .int .i64 0, .int .i64 0, .int .i64 0, .int .i64 0, .int .i64 0, .int .i64 0, .int .i64 0, .int .i64 0, .int .i64 0, .int .i64 0, .int .i64 0, .int .i64 0, .int .i64 0, .int .i64 0, .int .i64 0, .int .i64 0, .int .i64 0, .int .i64 0, .int .i64 0] 81)) := hB1.trans (hb2.mono hB1.size)
  refine wpList_step (fun K hK => ?_); go_simp; refine hK _ _ ?_; clear hK K
  refine wpList_step (fun K hK => ?_); go_simp; refine hK _ _ ?_; clear hK K
  refine wpList_step (fun K hK => ?_); go_simp; refine hK _ _ ?_; clear hK K
  refine wpList_step (fun K hK => ?_); go_simp; refine hK _ _ ?_; clear hK K
  generalize (w1.alloc (Obj.cells #[.int .i64 0, .int .i64 0, .int .i64 0, .int .i64 0, .int .i64 0, .int .i64 0, .int .i64 0, .int .i64 0, .int .i64 0, .int .i64 0, .int .i64 0, .int .i64 0, .int .i64 0, .int .i64 0, .int .i64 0, .int .i64 0, .int .i64 0, .int .i64 0, .int .i64 0, .int .i64 0, .int .i64 0, .int .i64 0, .int .i64 0, .int .i64 0, .int .i64 0, .int .i64 0, .int .i64 0, .int .i64 0, .int .i64 0, .int .i64 0, .int .i64 0] 81)) = W2 at *
  have HTH : Hid (W2.there w1.heap.size 0 (bkL N (gnL N N F) (rhL N N 0 F)).toArray.size) := Lib.hid HBK2.out.there
  (refine wpList_store_mid rfl 81 _ _ rfl w1.heap.size 0 (bkL N (gnL N N F) (rhL N N 0 F)).toArray rfl rfl HTH.out (infoBk N (gnL N N F) (rhL N N 0 F)) (all_oneCell_toArray (bkL_one N (gnL N N F) (rhL N N 0 F))) ?_)
  have HM3 : Hid (Bkw (W2.setCells w1.heap.size 0 (bkL N (gnL N N F) (rhL N N 0 F)).toArray.toList) w1.heap.size N (gnL N N F) (rhL N N 0 F)) := Lib.hid (by rw [List.toList_toArray]; exact HBK2.out.whole)
  have HB3 : Hid (Below w.heap.size w (W2.setCells w1.heap.size 0 (bkL N (gnL N N F) (rhL N N 0 F)).toArray.toList)) := Lib.hid (below_setCells hB2 hB1.size _ _)
  generalize W2.setCells w1.heap.size 0 (bkL N (gnL N N F) (rhL N N 0 F)).toArray.toList = W3 at *
  have hs3 : w1.heap.size < W3.heap.size := World.block_lt_of_cell? _ _ HM3.out.1.1
  clear HTH HBK2 hb2 hB2 hB1
  generalize w1.heap.size = g at *
  refine wpList_step (fun K hK => ?_); go_simp; refine hK _ _ ?_; clear hK K
  refine wpList_nil ?_
  have hc0 := HM3.out.1.1
  go_wp2_with fail
  refine (arePhases_any m dap bo B N _ hm (HI.out.keep (HB3.out.mono (Nat.le_refl _)))).mono ?_
  rw [HBB.out]
  rintro e w5 ⟨rfl, hb⟩
  have HM5 := Lib.hid (HM3.out.keep hb)
  have HB5 := Lib.hid (HB3.out.trans (hb.mono HB3.out.size))
  have hs5 : g < w5.heap.size := World.block_lt_of_cell? _ _ HM5.out.1.1
  clear hb hc0 HM3 HB3 hs3
  cases bb with
  | false =>
    have HE : Hid (chE N l F m B s top = 2) := Lib.hid (ch_arg HOK.out (arg_b HBB.out))
    have hbl := HB5.out
    clear HM5 HB5
    go_wp2_with fail
    refine bodyPost_ret (v := .tuple #[.slice none 0 0, .int .i64 2]) (by simp [results, Try.results44, go_sem, *]) rfl ⟨chR_no HE.out (by decide), by go_grown⟩
  | true =>
  by_cases h0 : s < 0
  · have HE : Hid (chE N l F m B s top = 2) := Lib.hid (ch_arg HOK.out (arg_s (by omega)))
    have hbl := HB5.out
    clear HM5 HB5
    go_wp2_with fail
    refine bodyPost_ret (v := .tuple #[.slice none 0 0, .int .i64 2]) (by simp [results, Try.results44, go_sem, *]) rfl ⟨chR_no HE.out (by decide), by go_grown⟩
  by_cases h1 : 1000000 < s
  · have HE : Hid (chE N l F m B s top = 2) := Lib.hid (ch_arg HOK.out (arg_s (by omega)))
    have hbl := HB5.out
    clear HM5 HB5
    go_wp2_with fail
    refine bodyPost_ret (v := .tuple #[.slice none 0 0, .int .i64 2]) (by simp [results, Try.results44, go_sem, *]) rfl ⟨chR_no HE.out (by decide), by go_grown⟩
  by_cases h2 : top < 0
  · have HE : Hid (chE N l F m B s top = 2) := Lib.hid (ch_arg HOK.out (arg_t (by omega)))
    have hbl := HB5.out
    clear HM5 HB5
    go_wp2_with fail
    refine bodyPost_ret (v := .tuple #[.slice none 0 0, .int .i64 2]) (by simp [results, Try.results44, go_sem, *]) rfl ⟨chR_no HE.out (by decide), by go_grown⟩
  by_cases h3 : 20 < top
  · have HE : Hid (chE N l F m B s top = 2) := Lib.hid (ch_arg HOK.out (arg_t (by omega)))
    have hbl := HB5.out
    clear HM5 HB5
    go_wp2_with fail
    refine bodyPost_ret (v := .tuple #[.slice none 0 0, .int .i64 2]) (by simp [results, Try.results44, go_sem, *]) rfl ⟨chR_no HE.out (by decide), by go_grown⟩
  have HA := Lib.hid (arg3 HBB.out (show 0 ≤ s by omega) (show s ≤ 1000000 by omega) (show 0 ≤ top by omega) (show top ≤ 20 by omega))
  have hc0 := HM5.out.1.1
  by_cases h3 : 3 < (N : Int)
  · have HE : Hid (chE N l F m B s top = 4) := Lib.hid (ch_lim HOK.out HA.out (by omega))
    have hbl := HB5.out
    clear HM5 HB5
    go_wp2_with fail
    refine bodyPost_ret (v := .tuple #[.slice none 0 0, .int .i64 4]) (by simp [results, Try.results44, go_sem, *]) rfl ⟨chR_no HE.out (by decide), by go_grown⟩
  have hN3 : N ≤ 3 := by omega
  have HE0 := Lib.hid (ch_end HOK.out HA.out hN3)
  have HBI : Hid (∀ j, j < N → -1000000 ≤ B j ∧ B j ≤ 1000000) := Lib.hid (fun j hj => (inB_iff.1 HBB.out).2 j (by have := (inB_iff.1 HBB.out).1; omega))
  have hmN : N = m := by have := (inB_iff.1 HBB.out).1; omega
  subst hmN
  clear hm
  obtain ⟨bst, hbst⟩ : ∃ bst, opL (chP N F B s top) = bst := ⟨_, rfl⟩
  obtain ⟨fd, hfd⟩ : ∃ fd, (chP N F B s top).isSome = fd := ⟨_, rfl⟩
  have HBST := Lib.hid hbst
  have HFD := Lib.hid hfd
  have HPB : Hid (∀ i, i < 5 → (padI N B i).natAbs ≤ 1000000) := Lib.hid (fun i _ => by
    unfold padI
    split
    · have := HBI.out i (by assumption); omega
    · decide)
  have HGB : Hid (∀ p : Nat → Int, (∀ i, 0 ≤ p i ∧ p i ≤ 20) → ∀ i, i < N → ∀ k, k < N → (gnL N N F (i * 5 + k) * p k).natAbs ≤ 1000000000000) := Lib.hid (fun p hp i hi k hk => by
    have hg : (-200 : Int) ≤ gnL N N F (i * 5 + k) ∧ gnL N N F (i * 5 + k) ≤ 200 := by
      unfold gnL
      split
      · rename_i h; exact HF.out _ h.1 _ h.2
      · omega
    have := mul_bd hg (hp k) (by omega)
    omega)
  have HCC : Hid (∀ w : World, Calls Try.prog 71 #[bkV N (gnL N N F) (rhL N N 0 F), liV (padI N B), .int .i64 s, .int .i64 top] w fun e w' => e = .returned (.tuple #[liV bst, .bool fd]) ∧ Below w.heap.size w w') := Lib.hid (fun w => by
    rw [← hbst, ← hfd]
    exact cheapest_any N (gnL N N F) (rhL N N 0 F) (padI N B) s top (nearF N F B s) w hN3 HGB.out HPB.out (by omega) (by omega) (fun _ => rfl))
  clear hbst hfd hc0
  have hc0 := HM5.out.1.1
  go_upto_region 12 with fail
  clear hc0
  have HMK : Hid (∀ w', Below w5.heap.size w5 w' → Bkw w' g N (gnL N N F) (rhL N N 0 F)) := Lib.hid (fun w' hb => HM5.out.keep hb)
  have D0 : Below w5.heap.size w5 w5.drew := (Below.refl _ _).drew
  go_cut [12, 13] (fun v10 vx wx => ∃ b10 : Nat, v10 = .pointer (some ⟨b10, 0, none⟩) ∧ vx = .bool fd ∧ w5.heap.size ≤ b10 ∧ b10 < wx.heap.size ∧ Hid (Liw wx b10 (bst)) ∧ Below w5.heap.size w5 wx)
  case first =>
    refine wp_region_held_drew (S := fun w' => Bkw w' g N (gnL N N F) (rhL N N 0 F)) (by kernel_rfl) (HMK.out _ D0) (fun hHeld => ?_)
    refine wpAnyH_take (i := 0) (oi := _) (v := _) rfl (by kernel_rfl) (by kernel_rfl) (by kernel_rfl) (fun _ _ _ h => h) (yieldsIf_load_mid (by rfl) 81 _ rfl g 0 rfl (bkL N (gnL N N F) (rhL N N 0 F)) _ (fun _ h => Bkw.range h) Try.underlying81 rfl (infoBk _ _ _)) (by assumption) ?_
    try change wpAnyH _ _ _ _ _ _ _ (Act.put _ (some 44) _) _
    try simp only [act_all]
    refine wpAnyH_take (i := 1) (oi := _) (v := ?_) rfl (by kernel_rfl) (by kernel_rfl) (by kernel_rfl) (fun _ _ _ h => h) (Or.inl ⟨by rfl, ?_⟩) (by assumption) ?_
    rotate_left
    · intro w hSw; go_simp; (try with_reducible rfl)
    try change wpAnyH _ _ _ _ _ _ _ (Act.put _ (some 45) _) _
    try simp only [act_all]
    refine wpAnyH_take (i := 3) (oi := _) (v := ?_) rfl (by kernel_rfl) (by kernel_rfl) (by kernel_rfl) (fun _ _ _ h => h) (Or.inl ⟨by rfl, ?_⟩) (by assumption) ?_
    rotate_left
    · intro w hSw; go_simp; (try with_reducible rfl)
    try change wpAnyH _ _ _ _ _ _ _ (Act.put _ (some 47) _) _
    try simp only [act_all]
    refine wpAnyH_take (i := 4) (oi := _) (v := ?_) rfl (by kernel_rfl) (by kernel_rfl) (by kernel_rfl) (fun _ _ _ h => h) (Or.inl ⟨by rfl, ?_⟩) (by assumption) ?_
    rotate_left
    · intro w hSw; go_simp; (try with_reducible rfl)
    try change wpAnyH _ _ _ _ _ _ _ (Act.put _ (some 48) _) _
    try simp only [act_all]
    refine wpAnyH_ready (rs := [2, 9]) (by kernel_rfl) (by simp) ?_
    refine AllReadyH.cons (o := _) rfl (fun K hK => ?_) ?_
    · go_simp
      refine (held_any N dap bo B _ hN5 (HI.out.keep (HB5.out.trans (D0.mono HB5.out.size)))).mono ?_
      rintro e v1 ⟨rfl, hb⟩
      have Dv1 : Below w5.heap.size w5 v1 := D0.trans (hb.mono D0.size)
      clear hb
      refine hK.out _ _ (HMK.out _ Dv1) (fun hHeld => ?_)
      clear hK K
      try simp only [act_all]
      refine wpAnyH_ready (rs := [5, 9]) (by kernel_rfl) (by simp) ?_
      refine AllReadyH.cons (o := _) rfl (fun K hK => ?_) ?_
      · go_simp
        refine (HCC.out _).mono ?_
        rintro e v2 ⟨rfl, hb⟩
        have Dv2 : Below w5.heap.size w5 v2 := Dv1.trans (hb.mono Dv1.size)
        clear hb
        refine hK.out _ _ (HMK.out _ Dv2) (fun hHeld => ?_)
        clear hK K
        try simp only [act_all]
        refine wpAnyH_take (i := 6) (oi := _) (v := ?_) rfl (by kernel_rfl) (by kernel_rfl) (by kernel_rfl) (fun _ _ _ h => h) (Or.inl ⟨by rfl, ?_⟩) (by assumption) ?_
        rotate_left
        · intro w hSw; go_simp; (try with_reducible rfl)
        try change wpAnyH _ _ _ _ _ _ _ (Act.put _ (some 43) _) _
        try simp only [act_all]
        refine wpAnyH_take (i := 7) (oi := _) (v := ?_) rfl (by kernel_rfl) (by kernel_rfl) (by kernel_rfl) (fun _ _ _ h => h) (Or.inl ⟨by rfl, ?_⟩) (by assumption) ?_
        rotate_left
        · intro w hSw; go_simp; (try with_reducible rfl)
        try change wpAnyH _ _ _ _ _ _ _ (Act.put _ (some 50) _) _
        try simp only [act_all]
        refine wpAnyH_take (i := 8) (oi := _) (v := ?_) rfl (by kernel_rfl) (by kernel_rfl) (by kernel_rfl) (fun _ _ _ h => h) (Or.inl ⟨by rfl, ?_⟩) (by assumption) ?_
        rotate_left
        · intro w hSw; go_simp; (try with_reducible rfl)
        try change wpAnyH _ _ _ _ _ _ _ (Act.put _ (some 51) _) _
        try simp only [act_all]
        refine wpAnyH_ready (rs := [9]) (by kernel_rfl) (by simp) ?_
        refine AllReadyH.cons (o := _) rfl (fun K hK => ?_) AllReadyH.nil
        go_simp
        have Da3 : Below w5.heap.size w5 (v2.alloc (Obj.cells #[.int .i64 0, .int .i64 0, .int .i64 0, .int .i64 0, .int .i64 0] 74)) := bal Dv2 _
        have HAa3 : Hid (Intw (v2.alloc (Obj.cells #[.int .i64 0, .int .i64 0, .int .i64 0, .int .i64 0, .int .i64 0] 74)) (v2.heap.size) 5 (fun _ => 0)) := Lib.hid (fun j hj => by rcases (show j = 0 ∨ j = 1 ∨ j = 2 ∨ j = 3 ∨ j = 4 by omega) with rfl | rfl | rfl | rfl | rfl <;> exact ⟨by go_cell, by go_cell⟩)
        have hla3 : v2.heap.size < (v2.alloc (Obj.cells #[.int .i64 0, .int .i64 0, .int .i64 0, .int .i64 0, .int .i64 0] 74)).heap.size := by simp
        have hga3 : w5.heap.size ≤ v2.heap.size := Dv2.size
        refine hK.out _ _ (HMK.out _ Da3) (fun hHeld => ?_)
        clear hK K
        try simp only [act_all]
        refine wpAnyH_ready (rs := [10]) (by kernel_rfl) (by simp) ?_
        refine AllReadyH.cons (o := _) rfl (fun K hK => ?_) AllReadyH.nil
        try unfold liV
        obtain ⟨⟨p0, r0⟩, ⟨p1, r1⟩, ⟨p2, r2⟩, ⟨p3, r3⟩, ⟨p4, r4⟩⟩ : _ ∧ _ ∧ _ ∧ _ ∧ _ := ⟨HAa3.out 0 (by omega), HAa3.out 1 (by omega), HAa3.out 2 (by omega), HAa3.out 3 (by omega), HAa3.out 4 (by omega)⟩
        go_simp
        have DS : Below w5.heap.size w5 (v2.alloc (Obj.cells #[.int .i64 (bst 0), .int .i64 (bst 1), .int .i64 (bst 2), .int .i64 (bst 3), .int .i64 (bst 4)] 74)) := bal Dv2 _
        refine hK.out _ _ (HMK.out _ DS) (fun hHeld => ?_)
        clear hK K
        try simp only [act_all]
        refine wpAnyH_take (i := 11) (oi := _) (v := ?_) rfl (by kernel_rfl) (by kernel_rfl) (by kernel_rfl) (fun _ _ _ h => h) (Or.inl ⟨by rfl, ?_⟩) (by assumption) ?_
        rotate_left
        · intro w hSw; go_simp; (try with_reducible rfl)
        try change wpAnyH _ _ _ _ _ _ _ (Act.put _ (some 13) _) _
        try simp only [act_all]
        refine wpAnyH_done (by kernel_rfl) ?_ _
        have hLw : Liw (v2.alloc (Obj.cells #[.int .i64 (bst 0), .int .i64 (bst 1), .int .i64 (bst 2), .int .i64 (bst 3), .int .i64 (bst 4)] 74)) v2.heap.size (bst) := fun j hj => by (try simp only []); rcases (show j = 0 ∨ j = 1 ∨ j = 2 ∨ j = 3 ∨ j = 4 by omega) with rfl | rfl | rfl | rfl | rfl <;> go_cell
        have hlt9 : v2.heap.size < (v2.alloc (Obj.cells #[.int .i64 (bst 0), .int .i64 (bst 1), .int .i64 (bst 2), .int .i64 (bst 3), .int .i64 (bst 4)] 74)).heap.size := by have := hla3; first | exact World.block_lt_of_cell? _ _ (hLw 0 (by omega)) | (simpa using this)
        have HLw := Lib.hid hLw
        clear hLw p0 p1 p2 p3 p4 r0 r1 r2 r3 r4
        go_wp2_with fail
        go_meet
        exact ⟨_, rfl, rfl, hga3, hlt9, HLw, DS⟩
      refine AllReadyH.cons (o := _) rfl (fun K hK => ?_) AllReadyH.nil
      go_simp
      have Da4 : Below w5.heap.size w5 (v1.alloc (Obj.cells #[.int .i64 0, .int .i64 0, .int .i64 0, .int .i64 0, .int .i64 0] 74)) := bal Dv1 _
      have HAa4 : Hid (Intw (v1.alloc (Obj.cells #[.int .i64 0, .int .i64 0, .int .i64 0, .int .i64 0, .int .i64 0] 74)) (v1.heap.size) 5 (fun _ => 0)) := Lib.hid (fun j hj => by rcases (show j = 0 ∨ j = 1 ∨ j = 2 ∨ j = 3 ∨ j = 4 by omega) with rfl | rfl | rfl | rfl | rfl <;> exact ⟨by go_cell, by go_cell⟩)
      have hla4 : v1.heap.size < (v1.alloc (Obj.cells #[.int .i64 0, .int .i64 0, .int .i64 0, .int .i64 0, .int .i64 0] 74)).heap.size := by simp
      have hga4 : w5.heap.size ≤ v1.heap.size := Dv1.size
      refine hK.out _ _ (HMK.out _ Da4) (fun hHeld => ?_)
      clear hK K
      try simp only [act_all]
      refine wpAnyH_ready (rs := [5]) (by kernel_rfl) (by simp) ?_
      refine AllReadyH.cons (o := _) rfl (fun K hK => ?_) AllReadyH.nil
      go_simp
      refine (HCC.out _).mono ?_
      rintro e v5 ⟨rfl, hb⟩
      have Dv5 : Below w5.heap.size w5 v5 := Da4.trans (hb.mono Da4.size)
      have HAv5 := Lib.hid (HAa4.out.keep hb)
      have hlv5 : v1.heap.size < v5.heap.size := by have := hb.size; have := hla4; omega
      clear hb
      refine hK.out _ _ (HMK.out _ Dv5) (fun hHeld => ?_)
      clear hK K
      try simp only [act_all]
      refine wpAnyH_take (i := 6) (oi := _) (v := ?_) rfl (by kernel_rfl) (by kernel_rfl) (by kernel_rfl) (fun _ _ _ h => h) (Or.inl ⟨by rfl, ?_⟩) (by assumption) ?_
      rotate_left
      · intro w hSw; go_simp; (try with_reducible rfl)
      try change wpAnyH _ _ _ _ _ _ _ (Act.put _ (some 43) _) _
      try simp only [act_all]
      refine wpAnyH_take (i := 7) (oi := _) (v := ?_) rfl (by kernel_rfl) (by kernel_rfl) (by kernel_rfl) (fun _ _ _ h => h) (Or.inl ⟨by rfl, ?_⟩) (by assumption) ?_
      rotate_left
      · intro w hSw; go_simp; (try with_reducible rfl)
      try change wpAnyH _ _ _ _ _ _ _ (Act.put _ (some 50) _) _
      try simp only [act_all]
      refine wpAnyH_take (i := 8) (oi := _) (v := ?_) rfl (by kernel_rfl) (by kernel_rfl) (by kernel_rfl) (fun _ _ _ h => h) (Or.inl ⟨by rfl, ?_⟩) (by assumption) ?_
      rotate_left
      · intro w hSw; go_simp; (try with_reducible rfl)
      try change wpAnyH _ _ _ _ _ _ _ (Act.put _ (some 51) _) _
      try simp only [act_all]
      refine wpAnyH_ready (rs := [10]) (by kernel_rfl) (by simp) ?_
      refine AllReadyH.cons (o := _) rfl (fun K hK => ?_) AllReadyH.nil
      try unfold liV
      obtain ⟨⟨p0, r0⟩, ⟨p1, r1⟩, ⟨p2, r2⟩, ⟨p3, r3⟩, ⟨p4, r4⟩⟩ : _ ∧ _ ∧ _ ∧ _ ∧ _ := ⟨HAv5.out 0 (by omega), HAv5.out 1 (by omega), HAv5.out 2 (by omega), HAv5.out 3 (by omega), HAv5.out 4 (by omega)⟩
      go_simp
      have DS : Below w5.heap.size w5 (((((v5.setCell ⟨v1.heap.size, 0, none⟩ (.int .i64 (bst 0))).setCell ⟨v1.heap.size, 1, none⟩ (.int .i64 (bst 1))).setCell ⟨v1.heap.size, 2, none⟩ (.int .i64 (bst 2))).setCell ⟨v1.heap.size, 3, none⟩ (.int .i64 (bst 3))).setCell ⟨v1.heap.size, 4, none⟩ (.int .i64 (bst 4))) := by have := hga4; have := hlv5; have := Dv5; go_grown
      refine hK.out _ _ (HMK.out _ DS) (fun hHeld => ?_)
      clear hK K
      try simp only [act_all]
      refine wpAnyH_take (i := 11) (oi := _) (v := ?_) rfl (by kernel_rfl) (by kernel_rfl) (by kernel_rfl) (fun _ _ _ h => h) (Or.inl ⟨by rfl, ?_⟩) (by assumption) ?_
      rotate_left
      · intro w hSw; go_simp; (try with_reducible rfl)
      try change wpAnyH _ _ _ _ _ _ _ (Act.put _ (some 13) _) _
      try simp only [act_all]
      refine wpAnyH_done (by kernel_rfl) ?_ _
      have hLw : Liw (((((v5.setCell ⟨v1.heap.size, 0, none⟩ (.int .i64 (bst 0))).setCell ⟨v1.heap.size, 1, none⟩ (.int .i64 (bst 1))).setCell ⟨v1.heap.size, 2, none⟩ (.int .i64 (bst 2))).setCell ⟨v1.heap.size, 3, none⟩ (.int .i64 (bst 3))).setCell ⟨v1.heap.size, 4, none⟩ (.int .i64 (bst 4))) v1.heap.size (bst) := fun j hj => by (try simp only []); rcases (show j = 0 ∨ j = 1 ∨ j = 2 ∨ j = 3 ∨ j = 4 by omega) with rfl | rfl | rfl | rfl | rfl <;> go_cell
      have hlt9 : v1.heap.size < (((((v5.setCell ⟨v1.heap.size, 0, none⟩ (.int .i64 (bst 0))).setCell ⟨v1.heap.size, 1, none⟩ (.int .i64 (bst 1))).setCell ⟨v1.heap.size, 2, none⟩ (.int .i64 (bst 2))).setCell ⟨v1.heap.size, 3, none⟩ (.int .i64 (bst 3))).setCell ⟨v1.heap.size, 4, none⟩ (.int .i64 (bst 4))).heap.size := by have := hlv5; first | exact World.block_lt_of_cell? _ _ (hLw 0 (by omega)) | (simpa using this)
      have HLw := Lib.hid hLw
      clear hLw p0 p1 p2 p3 p4 r0 r1 r2 r3 r4
      go_wp2_with fail
      go_meet
      exact ⟨_, rfl, rfl, hga4, hlt9, HLw, DS⟩
    refine AllReadyH.cons (o := _) rfl (fun K hK => ?_) AllReadyH.nil
    go_simp
    have Da6 : Below w5.heap.size w5 (w5.drew.alloc (Obj.cells #[.int .i64 0, .int .i64 0, .int .i64 0, .int .i64 0, .int .i64 0] 74)) := bal D0 _
    have HAa6 : Hid (Intw (w5.drew.alloc (Obj.cells #[.int .i64 0, .int .i64 0, .int .i64 0, .int .i64 0, .int .i64 0] 74)) (w5.heap.size) 5 (fun _ => 0)) := Lib.hid (fun j hj => by rcases (show j = 0 ∨ j = 1 ∨ j = 2 ∨ j = 3 ∨ j = 4 by omega) with rfl | rfl | rfl | rfl | rfl <;> exact ⟨by go_cell, by go_cell⟩)
    have hla6 : w5.heap.size < (w5.drew.alloc (Obj.cells #[.int .i64 0, .int .i64 0, .int .i64 0, .int .i64 0, .int .i64 0] 74)).heap.size := by simp
    have hga6 : w5.heap.size ≤ w5.heap.size := D0.size
    refine hK.out _ _ (HMK.out _ Da6) (fun hHeld => ?_)
    clear hK K
    try simp only [act_all]
    refine wpAnyH_ready (rs := [2]) (by kernel_rfl) (by simp) ?_
    refine AllReadyH.cons (o := _) rfl (fun K hK => ?_) AllReadyH.nil
    go_simp
    refine (held_any N dap bo B _ hN5 (HI.out.keep (HB5.out.trans (Da6.mono HB5.out.size)))).mono ?_
    rintro e v7 ⟨rfl, hb⟩
    have Dv7 : Below w5.heap.size w5 v7 := Da6.trans (hb.mono Da6.size)
    have HAv7 := Lib.hid (HAa6.out.keep hb)
    have hlv7 : w5.heap.size < v7.heap.size := by have := hb.size; have := hla6; omega
    clear hb
    refine hK.out _ _ (HMK.out _ Dv7) (fun hHeld => ?_)
    clear hK K
    try simp only [act_all]
    refine wpAnyH_ready (rs := [5]) (by kernel_rfl) (by simp) ?_
    refine AllReadyH.cons (o := _) rfl (fun K hK => ?_) AllReadyH.nil
    go_simp
    refine (HCC.out _).mono ?_
    rintro e v8 ⟨rfl, hb⟩
    have Dv8 : Below w5.heap.size w5 v8 := Dv7.trans (hb.mono Dv7.size)
    have HAv8 := Lib.hid (HAv7.out.keep hb)
    have hlv8 : w5.heap.size < v8.heap.size := by have := hb.size; have := hlv7; omega
    clear hb
    refine hK.out _ _ (HMK.out _ Dv8) (fun hHeld => ?_)
    clear hK K
    try simp only [act_all]
    refine wpAnyH_take (i := 6) (oi := _) (v := ?_) rfl (by kernel_rfl) (by kernel_rfl) (by kernel_rfl) (fun _ _ _ h => h) (Or.inl ⟨by rfl, ?_⟩) (by assumption) ?_
    rotate_left
    · intro w hSw; go_simp; (try with_reducible rfl)
    try change wpAnyH _ _ _ _ _ _ _ (Act.put _ (some 43) _) _
    try simp only [act_all]
    refine wpAnyH_take (i := 7) (oi := _) (v := ?_) rfl (by kernel_rfl) (by kernel_rfl) (by kernel_rfl) (fun _ _ _ h => h) (Or.inl ⟨by rfl, ?_⟩) (by assumption) ?_
    rotate_left
    · intro w hSw; go_simp; (try with_reducible rfl)
    try change wpAnyH _ _ _ _ _ _ _ (Act.put _ (some 50) _) _
    try simp only [act_all]
    refine wpAnyH_take (i := 8) (oi := _) (v := ?_) rfl (by kernel_rfl) (by kernel_rfl) (by kernel_rfl) (fun _ _ _ h => h) (Or.inl ⟨by rfl, ?_⟩) (by assumption) ?_
    rotate_left
    · intro w hSw; go_simp; (try with_reducible rfl)
    try change wpAnyH _ _ _ _ _ _ _ (Act.put _ (some 51) _) _
    try simp only [act_all]
    refine wpAnyH_ready (rs := [10]) (by kernel_rfl) (by simp) ?_
    refine AllReadyH.cons (o := _) rfl (fun K hK => ?_) AllReadyH.nil
    try unfold liV
    obtain ⟨⟨p0, r0⟩, ⟨p1, r1⟩, ⟨p2, r2⟩, ⟨p3, r3⟩, ⟨p4, r4⟩⟩ : _ ∧ _ ∧ _ ∧ _ ∧ _ := ⟨HAv8.out 0 (by omega), HAv8.out 1 (by omega), HAv8.out 2 (by omega), HAv8.out 3 (by omega), HAv8.out 4 (by omega)⟩
    go_simp
    have DS : Below w5.heap.size w5 (((((v8.setCell ⟨w5.heap.size, 0, none⟩ (.int .i64 (bst 0))).setCell ⟨w5.heap.size, 1, none⟩ (.int .i64 (bst 1))).setCell ⟨w5.heap.size, 2, none⟩ (.int .i64 (bst 2))).setCell ⟨w5.heap.size, 3, none⟩ (.int .i64 (bst 3))).setCell ⟨w5.heap.size, 4, none⟩ (.int .i64 (bst 4))) := by have := hga6; have := hlv8; have := Dv8; go_grown
    refine hK.out _ _ (HMK.out _ DS) (fun hHeld => ?_)
    clear hK K
    try simp only [act_all]
    refine wpAnyH_take (i := 11) (oi := _) (v := ?_) rfl (by kernel_rfl) (by kernel_rfl) (by kernel_rfl) (fun _ _ _ h => h) (Or.inl ⟨by rfl, ?_⟩) (by assumption) ?_
    rotate_left
    · intro w hSw; go_simp; (try with_reducible rfl)
    try change wpAnyH _ _ _ _ _ _ _ (Act.put _ (some 13) _) _
    try simp only [act_all]
    refine wpAnyH_done (by kernel_rfl) ?_ _
    have hLw : Liw (((((v8.setCell ⟨w5.heap.size, 0, none⟩ (.int .i64 (bst 0))).setCell ⟨w5.heap.size, 1, none⟩ (.int .i64 (bst 1))).setCell ⟨w5.heap.size, 2, none⟩ (.int .i64 (bst 2))).setCell ⟨w5.heap.size, 3, none⟩ (.int .i64 (bst 3))).setCell ⟨w5.heap.size, 4, none⟩ (.int .i64 (bst 4))) w5.heap.size (bst) := fun j hj => by (try simp only []); rcases (show j = 0 ∨ j = 1 ∨ j = 2 ∨ j = 3 ∨ j = 4 by omega) with rfl | rfl | rfl | rfl | rfl <;> go_cell
    have hlt9 : w5.heap.size < (((((v8.setCell ⟨w5.heap.size, 0, none⟩ (.int .i64 (bst 0))).setCell ⟨w5.heap.size, 1, none⟩ (.int .i64 (bst 1))).setCell ⟨w5.heap.size, 2, none⟩ (.int .i64 (bst 2))).setCell ⟨w5.heap.size, 3, none⟩ (.int .i64 (bst 3))).setCell ⟨w5.heap.size, 4, none⟩ (.int .i64 (bst 4))).heap.size := by have := hlv8; first | exact World.block_lt_of_cell? _ _ (hLw 0 (by omega)) | (simpa using this)
    have HLw := Lib.hid hLw
    clear hLw p0 p1 p2 p3 p4 r0 r1 r2 r3 r4
    go_wp2_with fail
    go_meet
    exact ⟨_, rfl, rfl, hga6, hlt9, HLw, DS⟩
  case rest =>
    obtain ⟨b10, rfl, rfl, hb10, hl10, HT, hD⟩ := hcut
    have HMc := Lib.hid (HM5.out.keep hD)
    have HBc := Lib.hid (HB5.out.trans (hD.mono HB5.out.size))
    have hbl := HBc.out
    have hc0 := HMc.out.1.1
    have n0 : (0 : Int) ≤ (N : Int) := by omega
    have n5 : (N : Int) ≤ 5 := by omega
    clear hD HMK HM5 HB5 hs5
    cases fd with
    | false =>
      have HE : Hid (chE N l F N B s top = 62) := Lib.hid (by rw [HE0.out, HFD.out]; rfl)
      go_wp2_with fail
      refine bodyPost_ret (v := .tuple #[.slice none 0 0, .int .i64 62]) (by simp [results, Try.results44, go_sem, *]) rfl ⟨chR_no HE.out (by decide), by go_grown⟩
    | true =>
      have HE : Hid (chE N l F N B s top = 0) := Lib.hid (by rw [HE0.out, HFD.out]; rfl)
      go_wp2_with fail
      refine (clone_any N 5 b10 0 (opL (chP N F B s top)) _ hN1 (by omega) (fun i hi => by
        have h := HT.out i (by omega)
        rw [Nat.zero_add, HBST.out]
        exact h)).mono ?_
      rintro e w7 ⟨⟨g7, cap7, rfl, hw7, _⟩, hb⟩
      have hbl7 := hbl.trans (hb.mono hbl.size)
      have HW7 := Lib.hid hw7
      clear hb hw7 hbl
      go_wp2_with fail
      refine bodyPost_ret (v := .tuple #[.slice (some ⟨g7, 0, none⟩) N cap7, .int .i64 0]) (by simp [results, Try.results44, go_sem]) rfl ⟨chR_ok HE.out HW7.out, hbl7⟩
theorem hCheapest_any (N cap : Nat) (ao : Option Addr) (A : Nat → Option Addr) (l c : Nat → Nat) (F : Nat → Nat → Int) (m dap : Nat) (bo : Option Addr) (B : Nat → Int) (s top : Int) (w : World) (hN : N ≤ 9223372036854775807) (hR : Rowsw w ao N A l c F) (hm : m ≤ 9223372036854775807) (hI : Ints w bo m B) :
    Calls Try.prog 44 #[.agg #[.slice ao N cap], .slice bo m dap, .int .i64 s, .int .i64 top] w fun e w' => ChR w' e N l F m B s top ∧ Below w.heap.size w w' := by
  cases hok : okG N l F with
  | false => exact hCheapest_no N cap ao A l c F m dap bo B s top w hN hR hok
  | true => exact hCheapest_ok N cap ao A l c F m dap bo B s top w hN hR hok hm hI
end Go.Proofs.Ytldepffpafccpaa
