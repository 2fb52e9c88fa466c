import Derived.Test.YtdhlikedjephmaaSv6
namespace Heat
def soE (N : Nat) (l : Nat → Nat) (F : Nat → Nat → Int) (m : Nat) (C : Nat → Int) : Int := if okG N l F = true then (if inB m C N (-1000000) 1000000 = true then (if detM N F = 0 then 61 else 0) else 2) else 60
theorem so_no {N : Nat} {l : Nat → Nat} {F : Nat → Nat → Int} {m : Nat} {C : Nat → Int} (h : okG N l F = false) : soE N l F m C = 60 := by unfold soE; rw [h]; rfl
theorem so_arg {N : Nat} {l : Nat → Nat} {F : Nat → Nat → Int} {m : Nat} {C : Nat → Int} (h : okG N l F = true) (h2 : inB m C N (-1000000) 1000000 = false) : soE N l F m C = 2 := by unfold soE; rw [h, h2]; rfl
theorem so_sing {N : Nat} {l : Nat → Nat} {F : Nat → Nat → Int} {m : Nat} {C : Nat → Int} (h : okG N l F = true) (h2 : inB m C N (-1000000) 1000000 = true) (h3 : detM N F = 0) : soE N l F m C = 61 := by unfold soE; rw [h, h2, if_pos rfl, if_pos rfl, if_pos h3]
theorem so_ok {N : Nat} {l : Nat → Nat} {F : Nat → Nat → Int} {m : Nat} {C : Nat → Int} (h : okG N l F = true) (h2 : inB m C N (-1000000) 1000000 = true) (h3 : ¬ detM N F = 0) : soE N l F m C = 0 := by unfold soE; rw [h, h2, if_pos rfl, if_pos rfl, if_neg h3]
end Heat
namespace Go.Proofs.Ytdhlikedjephmaa
open Go.RowKit Heat
theorem Ratw.rats {w : World} {g n : Nat} {P Q : Nat → Int} (h : Ratw w g n P Q) : Rats w (some ⟨g, 0, none⟩) n P Q := fun _ => ⟨g, 0, rfl, fun i hi => by
  have := h i hi
  rw [Nat.zero_add]
  exact this.1⟩
/-- What comes back of Solve. -/
def SoR (w : World) (e : Ending) (N : Nat) (l : Nat → Nat) (F : Nat → Nat → Int) (m : Nat) (C : Nat → Int) : Prop :=
  ∃ ao cap, e = .returned (.tuple #[.slice ao (if soE N l F m C = 0 then N else 0) cap, .int .i64 (soE N l F m C)]) ∧ Rats w ao (if soE N l F m C = 0 then N else 0) (soP N F C) (soQ N F C)
theorem soR_no {w : World} {N : Nat} {l : Nat → Nat} {F : Nat → Nat → Int} {m : Nat} {C : Nat → Int} {x : Int} (h : soE N l F m C = x) (h0 : x ≠ 0) : SoR w (.returned (.tuple #[.slice none 0 0, .int .i64 x])) N l F m C := by
  unfold SoR
  rw [h, if_neg h0]
  exact ⟨none, 0, rfl, fun h => absurd h (by omega)⟩
theorem soR_ok {w : World} {N : Nat} {l : Nat → Nat} {F : Nat → Nat → Int} {m : Nat} {C : Nat → Int} {g cap : Nat} (h : soE N l F m C = 0) (hw : Ratw w g N (soP N F C) (soQ N F C)) : SoR w (.returned (.tuple #[.slice (some ⟨g, 0, none⟩) N cap, .int .i64 0])) N l F m C := by
  unfold SoR
  rw [h, if_pos rfl]
  exact ⟨_, cap, rfl, hw.rats⟩
set_option maxRecDepth 100000 in
set_option maxHeartbeats 8000000 in
theorem rSolve_any (N cap : Nat) (ao : Option Addr) (A : Nat → Option Addr) (l c : Nat → Nat) (F : Nat → Nat → Int) (m dap : Nat) (bo : Option Addr) (C : Nat → Int) (w : World) (hN : N ≤ 9223372036854775807) (hR : Rowsw w ao N A l c F) (hm : m ≤ 9223372036854775807) (hI : Ints w bo m C) :
    Calls Try.prog 40 #[.agg #[.slice ao N cap], .slice bo m dap] w fun e w' => SoR w' e N l F m C ∧ Below w.heap.size w w' := by
  have HG := Lib.hid hR
  have HI := Lib.hid hI
  clear hR hI
  obtain ⟨bk, hbk⟩ : ∃ bk, okG N l F = bk := ⟨_, rfl⟩
  have HOK := Lib.hid hbk
  clear hbk
  have hbx : (w.alloc (Obj.cells #[.slice ao N cap] 40)).cell? ⟨w.heap.size, 0, none⟩ = some (.slice ao N cap) := by go_cell
  have hb0 : Below w.heap.size w (w.alloc (Obj.cells #[.slice ao N cap] 40)) := by go_grown
  have hsz : w.heap.size < (w.alloc (Obj.cells #[.slice ao N cap] 40)).heap.size := by simp
  go_enter Try.func40, Try.ntmps40
  go_upto_region 1 with fail
  generalize (w.alloc (Obj.cells #[.slice ao N cap] 40)) = W at *
  have HB0 := Lib.hid hb0
  clear hb0
  go_wp2_with fail
  refine (rhValid_any N cap ao A l c F _ hN (HG.out.keep (HB0.out.mono (Nat.le_refl _)))).mono ?_
  rw [HOK.out]
  rintro e w1 ⟨rfl, hb⟩
  have HB1 := Lib.hid (HB0.out.trans (hb.mono HB0.out.size))
  have hbx1 := (hb.cell (p := ⟨w.heap.size, 0, none⟩) hsz).trans hbx
  have hs1 : w.heap.size < w1.heap.size := by have := hb.size; omega
  clear hb HB0 hbx hsz
  have hbl := HB1.out
  obtain ⟨bb, hbb⟩ : ∃ bb, inB m C N (-1000000) 1000000 = bb := ⟨_, rfl⟩
  have HBB := Lib.hid hbb
  clear hbb
  cases bk with
  | false =>
    have HE : Hid (soE N l F m C = 60) := Lib.hid (so_no HOK.out)
    go_wp2_with fail
    refine bodyPost_ret (v := .tuple #[.slice none 0 0, .int .i64 60]) (by simp [results, Try.results40, go_sem, *]) rfl ⟨soR_no HE.out (by decide), hbl⟩
  | true =>
  have hN5 := (okG_iff.1 HOK.out).1.2
  have HL : Hid (∀ i, i < N → l i = N) := Lib.hid (fun i hi => ((okG_iff.1 HOK.out).2 i hi).1)
  clear hbl
  go_wp2_with fail
  refine (rIsPhases_any m dap bo C N _ hm (HI.out.keep HB1.out)).mono ?_
  rw [HBB.out]
  rintro e w2 ⟨rfl, hb⟩
  have HB2 := Lib.hid (HB1.out.trans (hb.mono HB1.out.size))
  have hbx2 := (hb.cell (p := ⟨w.heap.size, 0, none⟩) hs1).trans hbx1
  have hs2 : w.heap.size < w2.heap.size := by have := hb.size; omega
  clear hb HB1 hbx1 hs1
  have hbl := HB2.out
  cases bb with
  | false =>
    have HE : Hid (soE N l F m C = 2) := Lib.hid (so_arg HOK.out HBB.out)
    go_wp2_with fail
    refine bodyPost_ret (v := .tuple #[.slice none 0 0, .int .i64 2]) (by simp [results, Try.results40, go_sem, *]) rfl ⟨soR_no HE.out (by decide), hbl⟩
  | true =>
  have HCI : Hid (∀ j, j < N → -1000000 ≤ C j ∧ C j ≤ 1000000) := Lib.hid (fun j hj => (inB_iff.1 HBB.out).2 j (by have := (inB_iff.1 HBB.out).1; omega))
  have hmN : N = m := by have := (inB_iff.1 HBB.out).1; omega
  subst hmN
  clear hm hbl
  go_wp2_with fail
  refine (rdet_any N cap ao A l c F _ hN5 (HG.out.keep HB2.out) HL.out).mono ?_
  obtain ⟨d, hd⟩ : ∃ d, detM N F = d := ⟨_, rfl⟩
  have HdE := Lib.hid hd
  rw [hd]
  clear hd
  rintro e w3 ⟨rfl, hb⟩
  have HB3 := Lib.hid (HB2.out.trans (hb.mono HB2.out.size))
  have hbx3 := (hb.cell (p := ⟨w.heap.size, 0, none⟩) hs2).trans hbx2
  have hs3 : w.heap.size < w3.heap.size := by have := hb.size; omega
  clear hb HB2 hbx2 hs2
  have hbl := HB3.out
  by_cases hd0 : d = 0
  · have HE : Hid (soE N l F N C = 61) := Lib.hid (so_sing HOK.out HBB.out (by rw [HdE.out, hd0]))
    have hdb : (d == 0) = true := by simp [hd0]
    clear hd0
    go_wp2_with fail
    refine bodyPost_ret (v := .tuple #[.slice none 0 0, .int .i64 61]) (by simp [results, Try.results40, go_sem, *]) rfl ⟨soR_no HE.out (by decide), hbl⟩
  have HE : Hid (soE N l F N C = 0) := Lib.hid (so_ok HOK.out HBB.out (by rw [HdE.out]; exact hd0))
  have hdb : (d == 0) = false := beq_eq_false_iff_ne.2 hd0
  have HD0 : Hid (¬ detM N F = 0) := Lib.hid (by rw [HdE.out]; exact hd0)
  clear hd0 hbl
  go_wp2_with fail
  refine (rSolved_any N cap ao A l c F dap bo C _ (HG.out.keep HB3.out) HOK.out (HI.out.keep HB3.out) HCI.out HD0.out).mono ?_
  rintro e w4 ⟨⟨g4, c4, rfl, hr4, _⟩, hb⟩
  have hbl := HB3.out.trans (hb.mono HB3.out.size)
  have HR4 := Lib.hid hr4
  clear hb hr4 HB3 hbx3 hs3
  go_wp2_with fail
  refine bodyPost_ret (v := .tuple #[.slice (some ⟨g4, 0, none⟩) N c4, .int .i64 0]) (by simp [results, Try.results40, go_sem]) rfl ⟨soR_ok HE.out HR4.out, hbl⟩
set_option maxRecDepth 100000 in
set_option maxHeartbeats 8000000 in
theorem hSolve_no (N cap : Nat) (ao : Option Addr) (A : Nat → Option Addr) (l c : Nat → Nat) (F : Nat → Nat → Int) (m dap : Nat) (bo : Option Addr) (C : Nat → Int) (w : World) (hN : N ≤ 9223372036854775807) (hR : Rowsw w ao N A l c F) (hok : okG N l F = false) :
    Calls Try.prog 39 #[.agg #[.slice ao N cap], .slice bo m dap] w fun e w' => SoR w' e N l F m C ∧ Below w.heap.size w w' := by
  have HG := Lib.hid hR
  have HOK := Lib.hid hok
  clear hR hok
  have HE : Hid (soE N l F m C = 60) := Lib.hid (so_no HOK.out)
  have hbx : (w.alloc (Obj.cells #[.slice ao N cap] 40)).cell? ⟨w.heap.size, 0, none⟩ = some (.slice ao N cap) := by go_cell
  have hb0 : Below w.heap.size w (w.alloc (Obj.cells #[.slice ao N cap] 40)) := by go_grown
  have hsz : w.heap.size < (w.alloc (Obj.cells #[.slice ao N cap] 40)).heap.size := by simp
  go_enter Try.func39, Try.ntmps39
  go_upto_region 1 with fail
  generalize (w.alloc (Obj.cells #[.slice ao N cap] 40)) = W at *
  have HB0 := Lib.hid hb0
  have HSZ := Lib.hid hsz
  clear hb0
  refine wp_region_lit ?_
  refine wpList_step (fun K hK => ?_); go_simp; refine hK _ _ ?_; clear hK K
  refine wpList_step (fun K hK => ?_); go_simp
  refine (read_no N cap ao A l c F _ hN (HG.out.keep (HB0.out.mono (Nat.le_refl _))) HOK.out).mono ?_
  rintro e w1 ⟨rfl, hb⟩
  have hB1 : Below w.heap.size w w1 := HB0.out.trans (hb.mono HB0.out.size)
  have hg : w.heap.size < w1.heap.size := by have h1 := hb.size; have h2 := HSZ.out; omega
  refine hK _ _ ?_; clear hK K
  clear hb hbx hsz HSZ HB0
  have HBK2 : Hid (Bkw (w1.alloc (Obj.cells #[.int .i64 0, .int .i64 0, .int .i64 0, .int .i64 0, .int .i64 0, .int .i64 0, .int .i64 0, .int .i64 0, .int .i64 0, .int .i64 0, .int .i64 0, .int .i64 0, .int .i64 0, .int .i64 0, .int .i64 0, .int .i64 0, .int .i64 0, .int .i64 0, .int .i64 0, .int .i64 0, .int .i64 0, .int .i64 0, .int .i64 0, .int .i64 0, .int .i64 0, .int .i64 0, .int .i64 0, .int .i64 0, .int .i64 0, .int .i64 0, .int .i64 0] 81)) w1.heap.size 0 (fun _ => 0) (fun _ => 0)) := Lib.hid (Bkw.fresh (by refine ⟨?_, ?_, ?_, ?_, ?_, ?_, ?_, ?_, ?_, ?_, ?_, ?_, ?_, ?_, ?_, ?_, ?_, ?_, ?_, ?_, ?_, ?_, ?_, ?_, ?_, ?_, ?_, ?_, ?_, ?_, ?_⟩ <;> go_cell) (by refine ⟨?_, ?_, ?_, ?_, ?_, ?_, ?_, ?_, ?_, ?_, ?_, ?_, ?_, ?_, ?_, ?_, ?_, ?_, ?_, ?_, ?_, ?_, ?_, ?_, ?_, ?_, ?_, ?_, ?_, ?_, ?_⟩ <;> go_cell))
  have hb2 : Below w1.heap.size w1 (w1.alloc (Obj.cells #[.int .i64 0, .int .i64 0, .int .i64 0, .int .i64 0, .int .i64 0, .int .i64 0, .int .i64 0, .int .i64 0, .int .i64 0, .int .i64 0, .int .i64 0, .int .i64 0, .int .i64 0, .int .i64 0, .int .i64 0, .int .i64 0, .int .i64 0, .int .i64 0, .int .i64 0, .int .i64 0, .int .i64 0, .int .i64 0, .int .i64 0, .int .i64 0, .int .i64 0, .int .i64 0, .int .i64 0, .int .i64 0, .int .i64 0, .int .i64 0, .int .i64 0] 81)) := (Below.refl _ _).alloc (Nat.le_refl _) _
  have hB2 : Below w.heap.size w (w1.alloc (Obj.cells #[.int .i64 0, .int .i64 0, .int .i64 0, .int .i64 0, .int .i64 0, .int .i64 0, .int .i64 0, .int .i64 0, .int .i64 0, .int .i64 0, .int .i64 0, .int .i64 0, .int .i64 0, .int .i64 0, .int .i64 0, .int .i64 0, .int .i64 0, .int .i64 0, .int .i64 0, .int .i64 0, .int .i64 0, .int .i64 0, .int .i64 0, .int .i64 0, .int .i64 0, .int .i64 0, .int .i64 0, .int .i64 0, .int .i64 0, .int .i64 0, .int .i64 0] 81)) := hB1.trans (hb2.mono hB1.size)
  refine wpList_step (fun K hK => ?_); go_simp; refine hK _ _ ?_; clear hK K
  refine wpList_step (fun K hK => ?_); go_simp; refine hK _ _ ?_; clear hK K
  refine wpList_step (fun K hK => ?_); go_simp; refine hK _ _ ?_; clear hK K
  refine wpList_step (fun K hK => ?_); go_simp; refine hK _ _ ?_; clear hK K
  generalize (w1.alloc (Obj.cells #[.int .i64 0, .int .i64 0, .int .i64 0, .int .i64 0, .int .i64 0, .int .i64 0, .int .i64 0, .int .i64 0, .int .i64 0, .int .i64 0, .int .i64 0, .int .i64 0, .int .i64 0, .int .i64 0, .int .i64 0, .int .i64 0, .int .i64 0, .int .i64 0, .int .i64 0, .int .i64 0, .int .i64 0, .int .i64 0, .int .i64 0, .int .i64 0, .int .i64 0, .int .i64 0, .int .i64 0, .int .i64 0, .int .i64 0, .int .i64 0, .int .i64 0] 81)) = W2 at *
  have HTH : Hid (W2.there w1.heap.size 0 (bkL 0 (fun _ => 0) (fun _ => 0)).toArray.size) := Lib.hid HBK2.out.there
  (refine wpList_store_mid rfl 81 _ _ rfl w1.heap.size 0 (bkL 0 (fun _ => 0) (fun _ => 0)).toArray rfl rfl HTH.out (infoBk 0 (fun _ => 0) (fun _ => 0)) (all_oneCell_toArray (bkL_one 0 (fun _ => 0) (fun _ => 0))) ?_)
  have HM3 : Hid (Bkw (W2.setCells w1.heap.size 0 (bkL 0 (fun _ => 0) (fun _ => 0)).toArray.toList) w1.heap.size 0 (fun _ => 0) (fun _ => 0)) := Lib.hid (by rw [List.toList_toArray]; exact HBK2.out.whole)
  have HB3 : Hid (Below w.heap.size w (W2.setCells w1.heap.size 0 (bkL 0 (fun _ => 0) (fun _ => 0)).toArray.toList)) := Lib.hid (below_setCells hB2 hB1.size _ _)
  generalize W2.setCells w1.heap.size 0 (bkL 0 (fun _ => 0) (fun _ => 0)).toArray.toList = W3 at *
  have hs3 : w1.heap.size < W3.heap.size := World.block_lt_of_cell? _ _ HM3.out.1.1
  clear HTH HBK2 hb2 hB2 hB1
  generalize w1.heap.size = g at *
  refine wpList_step (fun K hK => ?_); go_simp; refine hK _ _ ?_; clear hK K
  refine wpList_nil ?_
  have hbl := HB3.out
  clear HM3 HB3
  go_wp2_with fail
  refine bodyPost_ret (v := .tuple #[.slice none 0 0, .int .i64 60]) (by simp [results, Try.results39, go_sem, *]) rfl ⟨soR_no HE.out (by decide), hbl⟩
set_option maxRecDepth 100000 in
set_option maxHeartbeats 8000000 in
theorem hSolve_bad (N cap : Nat) (ao : Option Addr) (A : Nat → Option Addr) (l c : Nat → Nat) (F : Nat → Nat → Int) (m dap : Nat) (bo : Option Addr) (C : Nat → Int) (w : World) (hN : N ≤ 9223372036854775807) (hR : Rowsw w ao N A l c F) (hok : okG N l F = true) (hm : m ≤ 9223372036854775807) (hI : Ints w bo m C) (hx : inB m C N (-1000000) 1000000 = false ∨ detM N F = 0) :
    Calls Try.prog 39 #[.agg #[.slice ao N cap], .slice bo m dap] w fun e w' => SoR w' e N l F m C ∧ Below w.heap.size w w' := by
  have HG := Lib.hid hR
  have HOK := Lib.hid hok
  clear hR hok
  have hN5 := (okG_iff.1 HOK.out).1.2
  have HI := Lib.hid hI
  obtain ⟨bb, hbb⟩ : ∃ bb, inB m C N (-1000000) 1000000 = bb := ⟨_, rfl⟩
  have HBB := Lib.hid hbb
  have HX : Hid (bb = false ∨ detM N F = 0) := Lib.hid (by rw [← hbb]; exact hx)
  clear hI hbb hx
  have hbx : (w.alloc (Obj.cells #[.slice ao N cap] 40)).cell? ⟨w.heap.size, 0, none⟩ = some (.slice ao N cap) := by go_cell
  have hb0 : Below w.heap.size w (w.alloc (Obj.cells #[.slice ao N cap] 40)) := by go_grown
  have hsz : w.heap.size < (w.alloc (Obj.cells #[.slice ao N cap] 40)).heap.size := by simp
  go_enter Try.func39, Try.ntmps39
  go_upto_region 1 with fail
  generalize (w.alloc (Obj.cells #[.slice ao N cap] 40)) = W at *
  have HB0 := Lib.hid hb0
  have HSZ := Lib.hid hsz
  clear hb0
  refine wp_region_lit ?_
  refine wpList_step (fun K hK => ?_); go_simp; refine hK _ _ ?_; clear hK K
  refine wpList_step (fun K hK => ?_); go_simp
  refine (read_ok N cap ao A l c F _ hN (HG.out.keep (HB0.out.mono (Nat.le_refl _))) HOK.out).mono ?_
  rintro e w1 ⟨rfl, hb⟩
  have hB1 : Below w.heap.size w w1 := HB0.out.trans (hb.mono HB0.out.size)
  have hg : w.heap.size < w1.heap.size := by have h1 := hb.size; have h2 := HSZ.out; omega
  refine hK _ _ ?_; clear hK K
  clear hb hbx hsz HSZ HB0
  have HBK2 : Hid (Bkw (w1.alloc (Obj.cells #[.int .i64 0, .int .i64 0, .int .i64 0, .int .i64 0, .int .i64 0, .int .i64 0, .int .i64 0, .int .i64 0, .int .i64 0, .int .i64 0, .int .i64 0, .int .i64 0, .int .i64 0, .int .i64 0, .int .i64 0, .int .i64 0, .int .i64 0, .int .i64 0, .int .i64 0, .int .i64 0, .int .i64 0, .int .i64 0, .int .i64 0, .int .i64 0, .int .i64 0, .int .i64 0, .int .i64 0, .int .i64 0, .int .i64 0, .int .i64 0, .int .i64 0] 81)) w1.heap.size 0 (fun _ => 0) (fun _ => 0)) := Lib.hid (Bkw.fresh (by refine ⟨?_, ?_, ?_, ?_, ?_, ?_, ?_, ?_, ?_, ?_, ?_, ?_, ?_, ?_, ?_, ?_, ?_, ?_, ?_, ?_, ?_, ?_, ?_, ?_, ?_, ?_, ?_, ?_, ?_, ?_, ?_⟩ <;> go_cell) (by refine ⟨?_, ?_, ?_, ?_, ?_, ?_, ?_, ?_, ?_, ?_, ?_, ?_, ?_, ?_, ?_, ?_, ?_, ?_, ?_, ?_, ?_, ?_, ?_, ?_, ?_, ?_, ?_, ?_, ?_, ?_, ?_⟩ <;> go_cell))
  have hb2 : Below w1.heap.size w1 (w1.alloc (Obj.cells #[.int .i64 0, .int .i64 0, .int .i64 0, .int .i64 0, .int .i64 0, .int .i64 0, .int .i64 0, .int .i64 0, .int .i64 0, .int .i64 0, .int .i64 0, .int .i64 0, .int .i64 0, .int .i64 0, .int .i64 0, .int .i64 0, .int .i64 0, .int .i64 0, .int .i64 0, .int .i64 0, .int .i64 0, .int .i64 0, .int .i64 0, .int .i64 0, .int .i64 0, .int .i64 0, .int .i64 0, .int .i64 0, .int .i64 0, .int .i64 0, .int .i64 0] 81)) := (Below.refl _ _).alloc (Nat.le_refl _) _
  have hB2 : Below w.heap.size w (w1.alloc (Obj.cells #[.int .i64 0, .int .i64 0, .int .i64 0, .int .i64 0, .int .i64 0, .int .i64 0, .int .i64 0, .int .i64 0, .int .i64 0, .int .i64 0, .int .i64 0, .int .i64 0, .int .i64 0, .int .i64 0, .int .i64 0, .int .i64 0, .int .i64 0, .int .i64 0, .int .i64 0, .int .i64 0, .int .i64 0, .int .i64 0, .int .i64 0, .int .i64 0, .int .i64 0, .int .i64 0, .int .i64 0, .int .i64 0, .int .i64 0, .int .i64 0, .int .i64 0] 81)) := hB1.trans (hb2.mono hB1.size)
  refine wpList_step (fun K hK => ?_); go_simp; refine hK _ _ ?_; clear hK K
  refine wpList_step (fun K hK => ?_); go_simp; refine hK _ _ ?_; clear hK K
  refine wpList_step (fun K hK => ?_); go_simp; refine hK _ _ ?_; clear hK K
  refine wpList_step (fun K hK => ?_); go_simp; refine hK _ _ ?_; clear hK K
  generalize (w1.alloc (Obj.cells #[.int .i64 0, .int .i64 0, .int .i64 0, .int .i64 0, .int .i64 0, .int .i64 0, .int .i64 0, .int .i64 0, .int .i64 0, .int .i64 0, .int .i64 0, .int .i64 0, .int .i64 0, .int .i64 0, .int .i64 0, .int .i64 0, .int .i64 0, .int .i64 0, .int .i64 0, .int .i64 0, .int .i64 0, .int .i64 0, .int .i64 0, .int .i64 0, .int .i64 0, .int .i64 0, .int .i64 0, .int .i64 0, .int .i64 0, .int .i64 0, .int .i64 0] 81)) = W2 at *
  have HTH : Hid (W2.there w1.heap.size 0 (bkL N (gnL N N F) (rhL N N 0 F)).toArray.size) := Lib.hid HBK2.out.there
  (refine wpList_store_mid rfl 81 _ _ rfl w1.heap.size 0 (bkL N (gnL N N F) (rhL N N 0 F)).toArray rfl rfl HTH.out (infoBk N (gnL N N F) (rhL N N 0 F)) (all_oneCell_toArray (bkL_one N (gnL N N F) (rhL N N 0 F))) ?_)
  have HM3 : Hid (Bkw (W2.setCells w1.heap.size 0 (bkL N (gnL N N F) (rhL N N 0 F)).toArray.toList) w1.heap.size N (gnL N N F) (rhL N N 0 F)) := Lib.hid (by rw [List.toList_toArray]; exact HBK2.out.whole)
  have HB3 : Hid (Below w.heap.size w (W2.setCells w1.heap.size 0 (bkL N (gnL N N F) (rhL N N 0 F)).toArray.toList)) := Lib.hid (below_setCells hB2 hB1.size _ _)
  generalize W2.setCells w1.heap.size 0 (bkL N (gnL N N F) (rhL N N 0 F)).toArray.toList = W3 at *
  have hs3 : w1.heap.size < W3.heap.size := World.block_lt_of_cell? _ _ HM3.out.1.1
  clear HTH HBK2 hb2 hB2 hB1
  generalize w1.heap.size = g at *
  refine wpList_step (fun K hK => ?_); go_simp; refine hK _ _ ?_; clear hK K
  refine wpList_nil ?_
  have hc0 := HM3.out.1.1
  go_wp2_with fail
  refine (arePhases_any m dap bo C N _ hm (HI.out.keep (HB3.out.mono (Nat.le_refl _)))).mono ?_
  rw [HBB.out]
  rintro e w4 ⟨rfl, hb⟩
  have HM4 := Lib.hid (HM3.out.keep hb)
  have HB4 := Lib.hid (HB3.out.trans (hb.mono HB3.out.size))
  have hs4 : g < w4.heap.size := World.block_lt_of_cell? _ _ HM4.out.1.1
  clear hb hc0 HM3 HB3 hs3
  cases bb with
  | false =>
    have HE : Hid (soE N l F m C = 2) := Lib.hid (so_arg HOK.out HBB.out)
    have hbl := HB4.out
    clear HM4 HB4
    go_wp2_with fail
    refine bodyPost_ret (v := .tuple #[.slice none 0 0, .int .i64 2]) (by simp [results, Try.results39, go_sem, *]) rfl ⟨soR_no HE.out (by decide), hbl⟩
  | true =>
  have HE : Hid (soE N l F m C = 61) := Lib.hid (so_sing HOK.out HBB.out (HX.out.resolve_left (by simp)))
  have HD : Hid (detN N (gnL N N F) = 0) := Lib.hid (by rw [← detM_N hN5]; exact HX.out.resolve_left (by simp))
  have HRG := Lib.hid HM4.out.1.range
  go_upto_region 6 with fail
  refine wp_region_lit ?_
  refine wpList_step (fun K hK => ?_); go_simp; refine hK _ _ ?_; clear hK K
  (refine wpList_load_mid rfl 79 _ rfl g 0 rfl (sqL N (gnL N N F)) _ HRG.out Try.underlying79 rfl (infoSq N (gnL N N F)) ?_)
  refine wpList_step (fun K hK => ?_); go_simp
  refine (det_any N (gnL N N F) _ hN5).mono ?_
  rw [HD.out]
  rintro e w5 ⟨rfl, hb⟩
  have hbl := HB4.out.trans (hb.mono HB4.out.size)
  clear hb HM4 HB4 hs4 HRG
  refine hK _ _ ?_; clear hK K
  refine wpList_step (fun K hK => ?_); go_simp; refine hK _ _ ?_; clear hK K
  refine wpList_nil ?_
  go_wp2_with fail
  refine bodyPost_ret (v := .tuple #[.slice none 0 0, .int .i64 61]) (by simp [results, Try.results39, go_sem, *]) rfl ⟨soR_no HE.out (by decide), hbl⟩
theorem hSolve_any (N cap : Nat) (ao : Option Addr) (A : Nat → Option Addr) (l c : Nat → Nat) (F : Nat → Nat → Int) (m dap : Nat) (bo : Option Addr) (C : Nat → Int) (w : World) (hN : N ≤ 9223372036854775807) (hR : Rowsw w ao N A l c F) (hm : m ≤ 9223372036854775807) (hI : Ints w bo m C) :
    Calls Try.prog 39 #[.agg #[.slice ao N cap], .slice bo m dap] w fun e w' => SoR w' e N l F m C ∧ Below w.heap.size w w' := by
  cases hok : okG N l F with
  | false => exact hSolve_no N cap ao A l c F m dap bo C w hN hR hok
  | true =>
    have hN5 := (okG_iff.1 hok).1.2
    have hF : ∀ i, i < N → ∀ j, j < N → -200 ≤ F i j ∧ F i j ≤ 200 := fun i hi => ((okG_iff.1 hok).2 i hi).2
    cases hb : inB m C N (-1000000) 1000000 with
    | false => exact hSolve_bad N cap ao A l c F m dap bo C w hN hR hok hm hI (.inl hb)
    | true =>
      by_cases hd : detM N F = 0
      · exact hSolve_bad N cap ao A l c F m dap bo C w hN hR hok hm hI (.inr hd)
      · have hmN : m = N := by have := (inB_iff.1 hb).1; omega
        subst hmN
        have hC : ∀ i, i < m → -1000000 ≤ C i ∧ C i ≤ 1000000 := (inB_iff.1 hb).2
        refine (hSolve_ok m cap ao A l c F m dap bo C w hN hR hok hI hb (detN_small hN5 hF) (by rw [← detM_N hN5]; exact hd) (fun k hk => by rw [wi_wc hN5]; exact detN_small1 hN5 hk hF hC)).mono ?_
        rintro e w1 ⟨g, cap', rfl, hr, _, _, _, _, hb1⟩
        exact ⟨soR_ok (so_ok hok hb hd) (hr.congr fun k hk => by unfold soP soQ; rw [wi_wc hN5, ← detM_N hN5]; exact ⟨rfl, rfl⟩), hb1⟩
end Go.Proofs.Ytdhlikedjephmaa
