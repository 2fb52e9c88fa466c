import Derived.Test.YtdhlikedjephmaaHq
namespace Go.Proofs.Ytdhlikedjephmaa
open Go.RowKit Heat
theorem results_cell_tmp {P : Program} {fn : Func} {p q : Tmp} {ty : TypeId} (h : fn.results = #[.cell p ty, .tmp q]) (tmps : Array Value) (w : World) (b o : Nat) (cs : List Value) (d : TypeDesc) (v : Value)
    (hp : tmps.getD p undef = .pointer (some ⟨b, o, none⟩)) (hv : tmps.getD q undef = v) (hc : w.rangeAt b o cs) (hu : P.underlying ty = some d) (hd : d.isRow = true) (hi : (P.info? ty).map (·.size) = some cs.length) :
    (results fn tmps).run P w = .ok (.tuple #[.agg cs.toArray, v]) w := by
  have hp' : tmps[p]?.getD undef = .pointer (some ⟨b, o, none⟩) := by simpa using hp
  have hv' : tmps[q]?.getD undef = v := by simpa using hv
  simp [results, h, hp', hv', asAddr, run_loadVar_mid w b o ty cs d hc hu hd hi]
set_option maxRecDepth 100000 in
set_option maxHeartbeats 8000000 in
theorem read_no (N cap : Nat) (ao : Option Addr) (A : Nat → Option Addr) (l c : Nat → Nat) (F : Nat → Nat → Int) (w : World) (hN : N ≤ 9223372036854775807) (hR : Rowsw w ao N A l c F) (hok : okG N l F = false) :
    Calls Try.prog 55 #[.agg #[.slice ao N cap]] w fun e w' => e = .returned (.tuple #[bkV 0 (fun _ => 0) (fun _ => 0), .int .i64 60]) ∧ Below w.heap.size w w' := by
  have HG := Lib.hid hR
  have HOK := Lib.hid hok
  clear hR hok
  have HBK : Hid (Bkw ((w.alloc (Obj.cells #[.slice ao N cap] 40)).alloc (Obj.cells #[.int .i64 0, .int .i64 0, .int .i64 0, .int .i64 0, .int .i64 0, .int .i64 0, .int .i64 0, .int .i64 0, .int .i64 0, .int .i64 0, .int .i64 0, .int .i64 0, .int .i64 0, .int .i64 0, .int .i64 0, .int .i64 0, .int .i64 0, .int .i64 0, .int .i64 0, .int .i64 0, .int .i64 0, .int .i64 0, .int .i64 0, .int .i64 0, .int .i64 0, .int .i64 0, .int .i64 0, .int .i64 0, .int .i64 0, .int .i64 0, .int .i64 0] 81)) (w.heap.size + 1) 0 (fun _ => 0) (fun _ => 0)) := Lib.hid (Bkw.fresh (by refine ⟨?_, ?_, ?_, ?_, ?_, ?_, ?_, ?_, ?_, ?_, ?_, ?_, ?_, ?_, ?_, ?_, ?_, ?_, ?_, ?_, ?_, ?_, ?_, ?_, ?_, ?_, ?_, ?_, ?_, ?_, ?_⟩ <;> go_cell) (by refine ⟨?_, ?_, ?_, ?_, ?_, ?_, ?_, ?_, ?_, ?_, ?_, ?_, ?_, ?_, ?_, ?_, ?_, ?_, ?_, ?_, ?_, ?_, ?_, ?_, ?_, ?_, ?_, ?_, ?_, ?_, ?_⟩ <;> go_cell))
  have hbx : ((w.alloc (Obj.cells #[.slice ao N cap] 40)).alloc (Obj.cells #[.int .i64 0, .int .i64 0, .int .i64 0, .int .i64 0, .int .i64 0, .int .i64 0, .int .i64 0, .int .i64 0, .int .i64 0, .int .i64 0, .int .i64 0, .int .i64 0, .int .i64 0, .int .i64 0, .int .i64 0, .int .i64 0, .int .i64 0, .int .i64 0, .int .i64 0, .int .i64 0, .int .i64 0, .int .i64 0, .int .i64 0, .int .i64 0, .int .i64 0, .int .i64 0, .int .i64 0, .int .i64 0, .int .i64 0, .int .i64 0, .int .i64 0] 81)).cell? ⟨w.heap.size, 0, none⟩ = some (.slice ao N cap) := by go_cell
  have hb0 : Below w.heap.size w ((w.alloc (Obj.cells #[.slice ao N cap] 40)).alloc (Obj.cells #[.int .i64 0, .int .i64 0, .int .i64 0, .int .i64 0, .int .i64 0, .int .i64 0, .int .i64 0, .int .i64 0, .int .i64 0, .int .i64 0, .int .i64 0, .int .i64 0, .int .i64 0, .int .i64 0, .int .i64 0, .int .i64 0, .int .i64 0, .int .i64 0, .int .i64 0, .int .i64 0, .int .i64 0, .int .i64 0, .int .i64 0, .int .i64 0, .int .i64 0, .int .i64 0, .int .i64 0, .int .i64 0, .int .i64 0, .int .i64 0, .int .i64 0] 81)) := by go_grown
  have hsz : w.heap.size + 1 < ((w.alloc (Obj.cells #[.slice ao N cap] 40)).alloc (Obj.cells #[.int .i64 0, .int .i64 0, .int .i64 0, .int .i64 0, .int .i64 0, .int .i64 0, .int .i64 0, .int .i64 0, .int .i64 0, .int .i64 0, .int .i64 0, .int .i64 0, .int .i64 0, .int .i64 0, .int .i64 0, .int .i64 0, .int .i64 0, .int .i64 0, .int .i64 0, .int .i64 0, .int .i64 0, .int .i64 0, .int .i64 0, .int .i64 0, .int .i64 0, .int .i64 0, .int .i64 0, .int .i64 0, .int .i64 0, .int .i64 0, .int .i64 0] 81)).heap.size := by simp
  go_enter Try.func55, Try.ntmps55
  go_upto_region 1 with fail
  generalize ((w.alloc (Obj.cells #[.slice ao N cap] 40)).alloc (Obj.cells #[.int .i64 0, .int .i64 0, .int .i64 0, .int .i64 0, .int .i64 0, .int .i64 0, .int .i64 0, .int .i64 0, .int .i64 0, .int .i64 0, .int .i64 0, .int .i64 0, .int .i64 0, .int .i64 0, .int .i64 0, .int .i64 0, .int .i64 0, .int .i64 0, .int .i64 0, .int .i64 0, .int .i64 0, .int .i64 0, .int .i64 0, .int .i64 0, .int .i64 0, .int .i64 0, .int .i64 0, .int .i64 0, .int .i64 0, .int .i64 0, .int .i64 0] 81)) = W at *
  have HB0 := Lib.hid hb0
  have HSZ := Lib.hid hsz
  clear hb0
  go_wp2_with fail
  refine (hValid_any N cap ao A l c F _ hN (HG.out.keep (HB0.out.mono (Nat.le_refl _)))).mono ?_
  rw [HOK.out]
  rintro e w1 ⟨rfl, hb⟩
  have hB1 : Below w.heap.size w w1 := HB0.out.trans (hb.mono HB0.out.size)
  have hbx1 : w1.cell? ⟨w.heap.size, 0, none⟩ = some (.slice ao N cap) := (hb.cell (p := ⟨w.heap.size, 0, none⟩) (by have := HSZ.out; simp only; omega)).trans hbx
  have HK1 := Lib.hid (HBK.out.keep hb)
  have hs1 : w.heap.size + 1 < w1.heap.size := by have h1 := hb.size; have h2 := HSZ.out; omega
  clear hb hbx hsz HBK HSZ HB0
  have HTH : Hid (w1.there (w.heap.size + 1) 0 (bkL 0 (fun _ => 0) (fun _ => 0)).toArray.size) := Lib.hid HK1.out.there
  have HW : (w1.setCells (w.heap.size + 1) 0 (bkL 0 (fun _ => 0) (fun _ => 0)).toArray.toList).rangeAt (w.heap.size + 1) 0 (bkL 0 (fun _ => 0) (fun _ => 0)) := World.rangeAt_setCells_same w1 (w.heap.size + 1) 0 (bkL 0 (fun _ => 0) (fun _ => 0)) HK1.out.there
  have HBW : Below w.heap.size w (w1.setCells (w.heap.size + 1) 0 (bkL 0 (fun _ => 0) (fun _ => 0)).toArray.toList) := below_setCells hB1 (by omega) _ _
  go_upto_region 2 with fail
  refine wp_region_lit ?_
  refine wpList_step (fun K hK => ?_); go_simp; refine hK _ _ ?_; clear hK K
  (refine wpList_store_mid rfl 81 _ _ rfl (w.heap.size + 1) 0 (bkL 0 (fun _ => 0) (fun _ => 0)).toArray rfl rfl HTH.out (infoBk 0 (fun _ => 0) (fun _ => 0)) (all_oneCell_toArray (bkL_one 0 (fun _ => 0) (fun _ => 0))) ?_)
  generalize w1.setCells (w.heap.size + 1) 0 (bkL 0 (fun _ => 0) (fun _ => 0)).toArray.toList = wz at *
  have HW2 := Lib.hid HW
  have HBW2 := Lib.hid HBW
  clear HW HBW
  refine wpList_step (fun K hK => ?_); go_simp; refine hK _ _ ?_; clear hK K
  refine wpList_nil ?_
  go_wp2_with fail
  refine bodyPost_ret (v := .tuple #[.agg (bkL 0 (fun _ => 0) (fun _ => 0)).toArray, .int .i64 60]) (results_cell_tmp rfl _ _ (w.heap.size + 1) 0 _ _ _ rfl rfl HW2.out Try.underlying81 rfl (infoBk 0 (fun _ => 0) (fun _ => 0))) rfl ⟨rfl, HBW2.out⟩
set_option maxRecDepth 100000 in
set_option maxHeartbeats 8000000 in
theorem read_ok (N cap : Nat) (ao : Option Addr) (A : Nat → Option Addr) (l c : Nat → Nat) (F : Nat → Nat → Int) (w : World) (hN : N ≤ 9223372036854775807) (hR : Rowsw w ao N A l c F) (hok : okG N l F = true) :
    Calls Try.prog 55 #[.agg #[.slice ao N cap]] w fun e w' => e = .returned (.tuple #[bkV N (gnL N N F) (rhL N N 0 F), .int .i64 0]) ∧ Below w.heap.size w w' := by
  have HG := Lib.hid hR
  have HOK := Lib.hid hok
  clear hR hok
  have HBK : Hid (Bkw ((w.alloc (Obj.cells #[.slice ao N cap] 40)).alloc (Obj.cells #[.int .i64 0, .int .i64 0, .int .i64 0, .int .i64 0, .int .i64 0, .int .i64 0, .int .i64 0, .int .i64 0, .int .i64 0, .int .i64 0, .int .i64 0, .int .i64 0, .int .i64 0, .int .i64 0, .int .i64 0, .int .i64 0, .int .i64 0, .int .i64 0, .int .i64 0, .int .i64 0, .int .i64 0, .int .i64 0, .int .i64 0, .int .i64 0, .int .i64 0, .int .i64 0, .int .i64 0, .int .i64 0, .int .i64 0, .int .i64 0, .int .i64 0] 81)) (w.heap.size + 1) 0 (fun _ => 0) (fun _ => 0)) := Lib.hid (Bkw.fresh (by refine ⟨?_, ?_, ?_, ?_, ?_, ?_, ?_, ?_, ?_, ?_, ?_, ?_, ?_, ?_, ?_, ?_, ?_, ?_, ?_, ?_, ?_, ?_, ?_, ?_, ?_, ?_, ?_, ?_, ?_, ?_, ?_⟩ <;> go_cell) (by refine ⟨?_, ?_, ?_, ?_, ?_, ?_, ?_, ?_, ?_, ?_, ?_, ?_, ?_, ?_, ?_, ?_, ?_, ?_, ?_, ?_, ?_, ?_, ?_, ?_, ?_, ?_, ?_, ?_, ?_, ?_, ?_⟩ <;> go_cell))
  have hbx : ((w.alloc (Obj.cells #[.slice ao N cap] 40)).alloc (Obj.cells #[.int .i64 0, .int .i64 0, .int .i64 0, .int .i64 0, .int .i64 0, .int .i64 0, .int .i64 0, .int .i64 0, .int .i64 0, .int .i64 0, .int .i64 0, .int .i64 0, .int .i64 0, .int .i64 0, .int .i64 0, .int .i64 0, .int .i64 0, .int .i64 0, .int .i64 0, .int .i64 0, .int .i64 0, .int .i64 0, .int .i64 0, .int .i64 0, .int .i64 0, .int .i64 0, .int .i64 0, .int .i64 0, .int .i64 0, .int .i64 0, .int .i64 0] 81)).cell? ⟨w.heap.size, 0, none⟩ = some (.slice ao N cap) := by go_cell
  have hb0 : Below w.heap.size w ((w.alloc (Obj.cells #[.slice ao N cap] 40)).alloc (Obj.cells #[.int .i64 0, .int .i64 0, .int .i64 0, .int .i64 0, .int .i64 0, .int .i64 0, .int .i64 0, .int .i64 0, .int .i64 0, .int .i64 0, .int .i64 0, .int .i64 0, .int .i64 0, .int .i64 0, .int .i64 0, .int .i64 0, .int .i64 0, .int .i64 0, .int .i64 0, .int .i64 0, .int .i64 0, .int .i64 0, .int .i64 0, .int .i64 0, .int .i64 0, .int .i64 0, .int .i64 0, .int .i64 0, .int .i64 0, .int .i64 0, .int .i64 0] 81)) := by go_grown
  have hsz : w.heap.size + 1 < ((w.alloc (Obj.cells #[.slice ao N cap] 40)).alloc (Obj.cells #[.int .i64 0, .int .i64 0, .int .i64 0, .int .i64 0, .int .i64 0, .int .i64 0, .int .i64 0, .int .i64 0, .int .i64 0, .int .i64 0, .int .i64 0, .int .i64 0, .int .i64 0, .int .i64 0, .int .i64 0, .int .i64 0, .int .i64 0, .int .i64 0, .int .i64 0, .int .i64 0, .int .i64 0, .int .i64 0, .int .i64 0, .int .i64 0, .int .i64 0, .int .i64 0, .int .i64 0, .int .i64 0, .int .i64 0, .int .i64 0, .int .i64 0] 81)).heap.size := by simp
  go_enter Try.func55, Try.ntmps55
  go_upto_region 1 with fail
  generalize ((w.alloc (Obj.cells #[.slice ao N cap] 40)).alloc (Obj.cells #[.int .i64 0, .int .i64 0, .int .i64 0, .int .i64 0, .int .i64 0, .int .i64 0, .int .i64 0, .int .i64 0, .int .i64 0, .int .i64 0, .int .i64 0, .int .i64 0, .int .i64 0, .int .i64 0, .int .i64 0, .int .i64 0, .int .i64 0, .int .i64 0, .int .i64 0, .int .i64 0, .int .i64 0, .int .i64 0, .int .i64 0, .int .i64 0, .int .i64 0, .int .i64 0, .int .i64 0, .int .i64 0, .int .i64 0, .int .i64 0, .int .i64 0] 81)) = W at *
  have HB0 := Lib.hid hb0
  have HSZ := Lib.hid hsz
  clear hb0
  go_wp2_with fail
  refine (hValid_any N cap ao A l c F _ hN (HG.out.keep (HB0.out.mono (Nat.le_refl _)))).mono ?_
  rw [HOK.out]
  rintro e w1 ⟨rfl, hb⟩
  have hB1 : Below w.heap.size w w1 := HB0.out.trans (hb.mono HB0.out.size)
  have hbx1 : w1.cell? ⟨w.heap.size, 0, none⟩ = some (.slice ao N cap) := (hb.cell (p := ⟨w.heap.size, 0, none⟩) (by have := HSZ.out; simp only; omega)).trans hbx
  have HK1 := Lib.hid (HBK.out.keep hb)
  have hs1 : w.heap.size + 1 < w1.heap.size := by have h1 := hb.size; have h2 := HSZ.out; omega
  clear hb hbx hsz HBK HSZ HB0
  obtain ⟨hNN, hF⟩ := okG_iff.1 HOK.out
  have HF := Lib.hid hF
  have HNN := Lib.hid hNN
  clear hNN hF
  have HBK2 : Hid (Bkw (w1.alloc (Obj.cells #[.int .i64 0, .int .i64 0, .int .i64 0, .int .i64 0, .int .i64 0, .int .i64 0, .int .i64 0, .int .i64 0, .int .i64 0, .int .i64 0, .int .i64 0, .int .i64 0, .int .i64 0, .int .i64 0, .int .i64 0, .int .i64 0, .int .i64 0, .int .i64 0, .int .i64 0, .int .i64 0, .int .i64 0, .int .i64 0, .int .i64 0, .int .i64 0, .int .i64 0, .int .i64 0, .int .i64 0, .int .i64 0, .int .i64 0, .int .i64 0, .int .i64 0] 81)) w1.heap.size 0 (fun _ => 0) (fun _ => 0)) := Lib.hid (Bkw.fresh (by refine ⟨?_, ?_, ?_, ?_, ?_, ?_, ?_, ?_, ?_, ?_, ?_, ?_, ?_, ?_, ?_, ?_, ?_, ?_, ?_, ?_, ?_, ?_, ?_, ?_, ?_, ?_, ?_, ?_, ?_, ?_, ?_⟩ <;> go_cell) (by refine ⟨?_, ?_, ?_, ?_, ?_, ?_, ?_, ?_, ?_, ?_, ?_, ?_, ?_, ?_, ?_, ?_, ?_, ?_, ?_, ?_, ?_, ?_, ?_, ?_, ?_, ?_, ?_, ?_, ?_, ?_, ?_⟩ <;> go_cell))
  have hb2 : Below w1.heap.size w1 (w1.alloc (Obj.cells #[.int .i64 0, .int .i64 0, .int .i64 0, .int .i64 0, .int .i64 0, .int .i64 0, .int .i64 0, .int .i64 0, .int .i64 0, .int .i64 0, .int .i64 0, .int .i64 0, .int .i64 0, .int .i64 0, .int .i64 0, .int .i64 0, .int .i64 0, .int .i64 0, .int .i64 0, .int .i64 0, .int .i64 0, .int .i64 0, .int .i64 0, .int .i64 0, .int .i64 0, .int .i64 0, .int .i64 0, .int .i64 0, .int .i64 0, .int .i64 0, .int .i64 0] 81)) := (Below.refl _ _).alloc (Nat.le_refl _) _
  have HK2 := Lib.hid (HK1.out.keep hb2)
  have hs2 : w1.heap.size < (w1.alloc (Obj.cells #[.int .i64 0, .int .i64 0, .int .i64 0, .int .i64 0, .int .i64 0, .int .i64 0, .int .i64 0, .int .i64 0, .int .i64 0, .int .i64 0, .int .i64 0, .int .i64 0, .int .i64 0, .int .i64 0, .int .i64 0, .int .i64 0, .int .i64 0, .int .i64 0, .int .i64 0, .int .i64 0, .int .i64 0, .int .i64 0, .int .i64 0, .int .i64 0, .int .i64 0, .int .i64 0, .int .i64 0, .int .i64 0, .int .i64 0, .int .i64 0, .int .i64 0] 81)).heap.size := by simp
  have hB2 : Below w.heap.size w (w1.alloc (Obj.cells #[.int .i64 0, .int .i64 0, .int .i64 0, .int .i64 0, .int .i64 0, .int .i64 0, .int .i64 0, .int .i64 0, .int .i64 0, .int .i64 0, .int .i64 0, .int .i64 0, .int .i64 0, .int .i64 0, .int .i64 0, .int .i64 0, .int .i64 0, .int .i64 0, .int .i64 0, .int .i64 0, .int .i64 0, .int .i64 0, .int .i64 0, .int .i64 0, .int .i64 0, .int .i64 0, .int .i64 0, .int .i64 0, .int .i64 0, .int .i64 0, .int .i64 0] 81)) := hB1.trans (hb2.mono hB1.size)
  go_upto_region 3 with fail
  refine wp_region_lit ?_
  refine wpList_step (fun K hK => ?_); go_simp; refine hK _ _ ?_; clear hK K
  refine wpList_step (fun K hK => ?_); go_simp; refine hK _ _ ?_; clear hK K
  refine wpList_step (fun K hK => ?_); go_simp; refine hK _ _ ?_; clear hK K
  refine wpList_step (fun K hK => ?_); go_simp; refine hK _ _ ?_; clear hK K
  refine wpList_step (fun K hK => ?_); go_simp; refine hK _ _ ?_; clear hK K
  refine wpList_step (fun K hK => ?_); go_simp; refine hK _ _ ?_; clear hK K
  have hbx2 : (w1.alloc (Obj.cells #[.int .i64 0, .int .i64 0, .int .i64 0, .int .i64 0, .int .i64 0, .int .i64 0, .int .i64 0, .int .i64 0, .int .i64 0, .int .i64 0, .int .i64 0, .int .i64 0, .int .i64 0, .int .i64 0, .int .i64 0, .int .i64 0, .int .i64 0, .int .i64 0, .int .i64 0, .int .i64 0, .int .i64 0, .int .i64 0, .int .i64 0, .int .i64 0, .int .i64 0, .int .i64 0, .int .i64 0, .int .i64 0, .int .i64 0, .int .i64 0, .int .i64 0] 81)).cell? ⟨w.heap.size, 0, none⟩ = some (.slice ao N cap) := (hb2.cell (p := ⟨w.heap.size, 0, none⟩) (by simp only; omega)).trans hbx1
  generalize (w1.alloc (Obj.cells #[.int .i64 0, .int .i64 0, .int .i64 0, .int .i64 0, .int .i64 0, .int .i64 0, .int .i64 0, .int .i64 0, .int .i64 0, .int .i64 0, .int .i64 0, .int .i64 0, .int .i64 0, .int .i64 0, .int .i64 0, .int .i64 0, .int .i64 0, .int .i64 0, .int .i64 0, .int .i64 0, .int .i64 0, .int .i64 0, .int .i64 0, .int .i64 0, .int .i64 0, .int .i64 0, .int .i64 0, .int .i64 0, .int .i64 0, .int .i64 0, .int .i64 0] 81)) = W2 at *
  have HTH : Hid (W2.there w1.heap.size 0 (bkL N (fun _ => 0) (fun _ => 0)).toArray.size) := Lib.hid HBK2.out.there
  (refine wpList_store_mid rfl 81 _ _ rfl w1.heap.size 0 (bkL N (fun _ => 0) (fun _ => 0)).toArray rfl rfl HTH.out (infoBk N (fun _ => 0) (fun _ => 0)) (all_oneCell_toArray (bkL_one N (fun _ => 0) (fun _ => 0))) ?_)
  have HM3 : Hid (Bkw (W2.setCells w1.heap.size 0 (bkL N (fun _ => 0) (fun _ => 0)).toArray.toList) w1.heap.size N (fun _ => 0) (fun _ => 0)) := Lib.hid (by rw [List.toList_toArray]; exact HBK2.out.whole)
  have HR3 : Hid (Bkw (W2.setCells w1.heap.size 0 (bkL N (fun _ => 0) (fun _ => 0)).toArray.toList) (w.heap.size + 1) 0 (fun _ => 0) (fun _ => 0)) := Lib.hid (HK2.out.others (by omega))
  have HB3 : Hid (Below w.heap.size w (W2.setCells w1.heap.size 0 (bkL N (fun _ => 0) (fun _ => 0)).toArray.toList)) := Lib.hid (below_setCells hB2 hB1.size _ _)
  have hbx3 : (W2.setCells w1.heap.size 0 (bkL N (fun _ => 0) (fun _ => 0)).toArray.toList).cell? ⟨w.heap.size, 0, none⟩ = some (.slice ao N cap) := ((below_setCells (Below.refl w1.heap.size W2) (Nat.le_refl _) _ _).cell (p := ⟨w.heap.size, 0, none⟩) (by simp only; omega)).trans hbx2
  have hg : w.heap.size + 1 < w1.heap.size := hs1
  generalize W2.setCells w1.heap.size 0 (bkL N (fun _ => 0) (fun _ => 0)).toArray.toList = W3 at *
  have hs3 : w1.heap.size < W3.heap.size := World.block_lt_of_cell? _ _ HM3.out.1.1
  refine wpList_nil ?_
  clear HTH HBK2 HK1 HK2 hb2 hs2 hB2 hbx2 hbx1 hB1 hs1
  generalize w1.heap.size = g at *
  go_wp2_with fail
  go_loopw [21] (fun iv wr => ∃ (z : Int) (i : Nat), iv = .int .i64 z ∧ z = i ∧ i ≤ N ∧ Hid (Bkw wr g N (gnL N i F) (rhL N i 0 F)) ∧ Hid (Bkw wr (w.heap.size + 1) 0 (fun _ => 0) (fun _ => 0)) ∧ Hid (Below w.heap.size w wr) ∧ g < wr.heap.size) (fun iv _ => N - (intOf iv).toNat)
  case atStart =>
    have h1 : gnL N 0 F = fun _ => 0 := by funext j; unfold gnL; rw [if_neg (by omega)]
    have h2 : rhL N 0 0 F = fun _ => 0 := by
      funext j; unfold rhL
      rw [if_neg (by omega)]
      by_cases e : j = 0
      · rw [if_pos e]; rfl
      · rw [if_neg e]
    exact ⟨0, 0, rfl, by omega, by omega, by rw [h1, h2]; exact HM3, HR3, HB3, hs3⟩
  case round =>
    obtain ⟨z, i, rfl, hz, hi, HM, HR, HB, hsw⟩ := hrel
    by_cases hlt : i < N
    · have hlt' : z < (N : Int) := by omega
      subst hz
      have hN5 := HNN.out.2
      have i0 : (0 : Int) ≤ (i : Int) := by omega
      have i5 : (i : Int) < 5 := by omega
      have wz : wrap64 ((i : Int) + 1) = (i : Int) + 1 := by simp only [wrap64]; omega
      have HRW := HG.out.keep HB.out
      obtain ⟨hli, hFi⟩ := HF.out i hlt
      have HFI := Lib.hid hFi
      obtain ⟨b, o, hao, hcell⟩ := HRW.1 (by omega)
      have g0 := hcell i hlt
      obtain ⟨_, hI⟩ := HG.out.2 i hlt
      rw [hli] at g0 hI
      obtain ⟨b1, o1, hA, hIc⟩ := hI (by omega)
      rw [hA] at g0 hI
      have HIC := Lib.hid hIc
      have hIr : Ints wr (some ⟨b1, o1, none⟩) N (F i) := fun _ => ⟨b1, o1, rfl, fun k hk => (HB.out.cell (p := ⟨b1, o1 + k, none⟩) (World.block_lt_of_cell? w _ (hIc k hk))).trans (hIc k hk)⟩
      have HC1 := Lib.hid (copy_in HM.out.1 (m := i * 5) (dl := 5) (dc := 5) (sc := c i) hIr (by omega) (by omega) (Nat.min_eq_left hN5).symm)
      have HM4 := Lib.hid (Bkw.putL (F := F i) (s := 0) (m := i * 5) N HM.out (by omega))
      rw [gnL_next hN5] at HM4
      have HR4 := Lib.hid (Bkw.others (o := 1 + i * 5) (b := g) (vs := cutI (F i) 0 N) HR.out (by omega))
      have HB4 := Lib.hid (below_setCells (m := g) HB.out (by omega) (cutI (F i) 0 N) (1 + i * 5))
      clear hcell HRW hI hIr hIc hA hFi hli HM HR HM3 HR3 HB3 hbx3 hs3
      subst hao
      go_upto_region 7 with fail
      refine wp_region_lit ?_
      refine wpList_step (fun K hK => ?_); go_simp; refine hK _ _ ?_; clear hK K
      refine wpList_step (fun K hK => ?_); go_simp; refine hK _ _ ?_; clear hK K
      refine wpList_step (fun K hK => ?_); go_simp; refine hK _ _ ?_; clear hK K
      refine wpList_step (fun K hK => ?_); go_simp; refine hK _ _ ?_; clear hK K
      refine wpList_step (fun K hK => ?_); go_simp; refine hK _ _ ?_; clear hK K
      refine wpList_step (fun K hK => ?_); go_simp; refine hK _ _ ?_; clear hK K
      have hcp := HC1.out
      refine wpList_step (fun K hK => ?_); go_simp; refine hK _ _ ?_; clear hK K
      refine wpList_nil ?_
      clear hcp HC1 g0
      generalize wr.setCells g (1 + i * 5) (cutI (F i) 0 N) = wv at *
      have hsv : g < wv.heap.size := World.block_lt_of_cell? _ _ HM4.out.1.1
      clear HB hsw
      go_wp2_with fail
      go_loopw [35] (fun jv wr2 => ∃ (y : Int) (j : Nat), jv = .int .i64 y ∧ y = j ∧ j ≤ N ∧ Hid (Bkw wr2 g N (gnL N (i + 1) F) (rhL N i j F)) ∧ Hid (Bkw wr2 (w.heap.size + 1) 0 (fun _ => 0) (fun _ => 0)) ∧ Hid (Below w.heap.size w wr2) ∧ g < wr2.heap.size) (fun jv _ => N - (intOf jv).toNat)
      case atStart => exact ⟨0, 0, rfl, by omega, by omega, HM4, HR4, HB4, hsv⟩
      case round =>
        obtain ⟨y, j, rfl, hy, hj, HM, HR, HB, hsw⟩ := hrel
        by_cases hjt : j < N
        · have hjt' : y < (N : Int) := by omega
          subst hy
          have j0 : (0 : Int) ≤ (j : Int) := by omega
          have wy : wrap64 ((j : Int) + 1) = (j : Int) + 1 := by simp only [wrap64]; omega
          obtain ⟨x, hx⟩ : ∃ x, F i j = x := ⟨_, rfl⟩
          obtain ⟨r, hr⟩ : ∃ r, sumA (F i) j = r := ⟨_, rfl⟩
          have hri : rhL N i j F i = r := by unfold rhL; rw [if_neg (by omega), if_pos rfl, hr]
          have g1 := (HB.out.cell (p := ⟨b1, o1 + j, none⟩) (World.block_lt_of_cell? w _ (HIC.out j hjt))).trans (HIC.out j hjt)
          have hxb := HFI.out j hjt
          rw [hx] at g1 hxb
          have hrb := sumA_bd (f := F i) (n := j) (fun q hq => HFI.out q (by omega))
          rw [hr] at hrb
          have hab := absI_bd hxb
          have wr1 : IntKind.i64.wrap (r + absI x) = r + absI x := IntWalk.i64_in _ (by omega)
          have HXB := Lib.hid hxb
          obtain ⟨c0, f0⟩ := HM.out.2 i (by omega)
          rw [hri] at c0
          have HU : Hid (updI (rhL N i j F) i (r + absI x) = rhL N i (j + 1) F) := Lib.hid (by rw [← hr, ← hx]; exact rhL_next)
          clear HM4 HR4 HB4 hsv hrb hab hxb hx hr hri
          go_upto_region 11 with fail
          refine wp_region_held_drew (S := fun _ => True) (by kernel_rfl) trivial (fun hHeld => ?_)
          refine wpAnyH_take (i := 0) (oi := _) (v := ?_) rfl (by kernel_rfl) (by kernel_rfl) (by kernel_rfl) (fun _ _ _ h => h) (Or.inl ⟨by rfl, ?_⟩) (by assumption) ?_
          rotate_left
          · intro w hSw; go_simp; (try with_reducible rfl)
          try change wpAnyH _ _ _ _ _ _ _ (Act.put _ (some 39) _) _
          try simp only [act_all]
          refine wpAnyH_take (i := 1) (oi := _) (v := ?_) rfl (by kernel_rfl) (by kernel_rfl) (by kernel_rfl) (fun _ _ _ h => h) (Or.inl ⟨by rfl, ?_⟩) (by assumption) ?_
          rotate_left
          · intro w hSw; go_simp; (try with_reducible rfl)
          try change wpAnyH _ _ _ _ _ _ _ (Act.put _ (some 40) _) _
          try simp only [act_all]
          refine wpAnyH_take (i := 2) (oi := _) (v := ?_) rfl (by kernel_rfl) (by kernel_rfl) (by kernel_rfl) (fun _ _ _ h => h) (Or.inl ⟨by rfl, ?_⟩) (by assumption) ?_
          rotate_left
          · intro w hSw; go_simp; (try with_reducible rfl)
          try change wpAnyH _ _ _ _ _ _ _ (Act.put _ (some 41) _) _
          try simp only [act_all]
          refine wpAnyH_take (i := 4) (oi := _) (v := ?_) rfl (by kernel_rfl) (by kernel_rfl) (by kernel_rfl) (fun _ _ _ h => h) (Or.inl ⟨by rfl, ?_⟩) (by assumption) ?_
          rotate_left
          · intro w hSw; go_simp; (try with_reducible rfl)
          try change wpAnyH _ _ _ _ _ _ _ (Act.put _ (some 43) _) _
          try simp only [act_all]
          refine wpAnyH_take (i := 7) (oi := _) (v := ?_) rfl (by kernel_rfl) (by kernel_rfl) (by kernel_rfl) (fun _ _ _ h => h) (Or.inl ⟨by rfl, ?_⟩) (by assumption) ?_
          rotate_left
          · intro w hSw; go_simp; (try with_reducible rfl)
          try change wpAnyH _ _ _ _ _ _ _ (Act.put _ (some 46) _) _
          try simp only [act_all]
          refine wpAnyH_ready (rs := [3, 5]) (by kernel_rfl) (by simp) ?_
          refine AllReadyH.cons (o := _) rfl (fun K hK => ?_) ?_
          · go_simp
            refine hK.out _ _ trivial (fun hHeld => ?_)
            clear hK K
            try simp only [act_all]
            refine wpAnyH_ready (rs := [5]) (by kernel_rfl) (by simp) ?_
            refine AllReadyH.cons (o := _) rfl (fun K hK => ?_) AllReadyH.nil
            go_simp
            refine (size_any x _ (by have := HXB.out; omega) (by have := HXB.out; omega)).mono ?_
            rintro e w2 ⟨rfl, hb⟩
            have HM2 := Lib.hid (HM.out.drew.keep hb)
            have HR2 := Lib.hid (HR.out.drew.keep hb)
            have HB2 := Lib.hid (HB.out.drew.trans (hb.mono HB.out.size))
            have hs2 : g < w2.heap.size := World.block_lt_of_cell? _ _ HM2.out.1.1
            have c1 := (hb.cell (p := ⟨g, 26 + i, none⟩) hsw).trans c0
            have f1 := (hb.frozen (p := ⟨g, 26 + i, none⟩) hsw).trans f0
            clear hb c0 f0
            refine hK.out _ _ trivial (fun hHeld => ?_)
            clear hK K
            try simp only [act_all]
            refine wpAnyH_take (i := 6) (oi := _) (v := ?_) rfl (by kernel_rfl) (by kernel_rfl) (by kernel_rfl) (fun _ _ _ h => h) (Or.inl ⟨by rfl, ?_⟩) (by assumption) ?_
            rotate_left
            · intro w hSw; go_simp; (try with_reducible rfl)
            try change wpAnyH _ _ _ _ _ _ _ (Act.put _ (some 45) _) _
            try simp only [act_all]
            refine wpAnyH_take (i := 8) (oi := _) (v := ?_) rfl (by kernel_rfl) (by kernel_rfl) (by kernel_rfl) (fun _ _ _ h => h) (Or.inl ⟨by rfl, ?_⟩) (by assumption) ?_
            rotate_left
            · intro w hSw; go_simp; (try with_reducible rfl)
            try change wpAnyH _ _ _ _ _ _ _ (Act.put _ (some 47) _) _
            try simp only [act_all]
            refine wpAnyH_ready (rs := [9]) (by kernel_rfl) (by simp) ?_
            refine AllReadyH.cons (o := _) rfl (fun K hK => ?_) AllReadyH.nil
            go_simp
            refine hK.out _ _ trivial (fun hHeld => ?_)
            clear hK K
            try simp only [act_all]
            refine wpAnyH_done (by kernel_rfl) ?_ _
            have HMn := Lib.hid (HM2.out.store (m := i) (by omega) (r + absI x))
            rw [HU.out] at HMn
            have HRn := Lib.hid (HR2.out.other (m := g) (o := 26 + i) (v := .int .i64 (r + absI x)) (by omega))
            have HBn := Lib.hid (HB2.out.setCell (p := ⟨g, 26 + i, none⟩) (by simp only; omega) (.int .i64 (r + absI x)))
            have hsn : g < (w2.setCell ⟨g, 26 + i, none⟩ (.int .i64 (r + absI x))).heap.size := World.block_lt_of_cell? _ _ HMn.out.1.1
            generalize w2.setCell ⟨g, 26 + i, none⟩ (.int .i64 (r + absI x)) = wn at *
            go_wp2_with fail
            go_roundw
            case rel => exact ⟨(j : Int) + 1, j + 1, by first | rfl | rw [wy], by omega, by omega, HMn, HRn, HBn, hsn⟩
            case measure => first | (simp [intOf]; done) | (simp [intOf]; omega)
          refine AllReadyH.cons (o := _) rfl (fun K hK => ?_) AllReadyH.nil
          go_simp
          refine (size_any x _ (by have := HXB.out; omega) (by have := HXB.out; omega)).mono ?_
          rintro e w2 ⟨rfl, hb⟩
          have HM2 := Lib.hid (HM.out.drew.keep hb)
          have HR2 := Lib.hid (HR.out.drew.keep hb)
          have HB2 := Lib.hid (HB.out.drew.trans (hb.mono HB.out.size))
          have hs2 : g < w2.heap.size := World.block_lt_of_cell? _ _ HM2.out.1.1
          have c1 := (hb.cell (p := ⟨g, 26 + i, none⟩) hsw).trans c0
          have f1 := (hb.frozen (p := ⟨g, 26 + i, none⟩) hsw).trans f0
          clear hb c0 f0
          refine hK.out _ _ trivial (fun hHeld => ?_)
          clear hK K
          try simp only [act_all]
          refine wpAnyH_ready (rs := [3]) (by kernel_rfl) (by simp) ?_
          refine AllReadyH.cons (o := _) rfl (fun K hK => ?_) AllReadyH.nil
          go_simp
          refine hK.out _ _ trivial (fun hHeld => ?_)
          clear hK K
          try simp only [act_all]
          refine wpAnyH_take (i := 6) (oi := _) (v := ?_) rfl (by kernel_rfl) (by kernel_rfl) (by kernel_rfl) (fun _ _ _ h => h) (Or.inl ⟨by rfl, ?_⟩) (by assumption) ?_
          rotate_left
          · intro w hSw; go_simp; (try with_reducible rfl)
          try change wpAnyH _ _ _ _ _ _ _ (Act.put _ (some 45) _) _
          try simp only [act_all]
          refine wpAnyH_take (i := 8) (oi := _) (v := ?_) rfl (by kernel_rfl) (by kernel_rfl) (by kernel_rfl) (fun _ _ _ h => h) (Or.inl ⟨by rfl, ?_⟩) (by assumption) ?_
          rotate_left
          · intro w hSw; go_simp; (try with_reducible rfl)
          try change wpAnyH _ _ _ _ _ _ _ (Act.put _ (some 47) _) _
          try simp only [act_all]
          refine wpAnyH_ready (rs := [9]) (by kernel_rfl) (by simp) ?_
          refine AllReadyH.cons (o := _) rfl (fun K hK => ?_) AllReadyH.nil
          go_simp
          refine hK.out _ _ trivial (fun hHeld => ?_)
          clear hK K
          try simp only [act_all]
          refine wpAnyH_done (by kernel_rfl) ?_ _
          have HMn := Lib.hid (HM2.out.store (m := i) (by omega) (r + absI x))
          rw [HU.out] at HMn
          have HRn := Lib.hid (HR2.out.other (m := g) (o := 26 + i) (v := .int .i64 (r + absI x)) (by omega))
          have HBn := Lib.hid (HB2.out.setCell (p := ⟨g, 26 + i, none⟩) (by simp only; omega) (.int .i64 (r + absI x)))
          have hsn : g < (w2.setCell ⟨g, 26 + i, none⟩ (.int .i64 (r + absI x))).heap.size := World.block_lt_of_cell? _ _ HMn.out.1.1
          generalize w2.setCell ⟨g, 26 + i, none⟩ (.int .i64 (r + absI x)) = wn at *
          go_wp2_with fail
          go_roundw
          case rel => exact ⟨(j : Int) + 1, j + 1, by first | rfl | rw [wy], by omega, by omega, HMn, HRn, HBn, hsn⟩
          case measure => first | (simp [intOf]; done) | (simp [intOf]; omega)
        · obtain rfl : j = N := by omega
          go_wp2_with fail
          go_roundw
          case rel => exact ⟨(i : Int) + 1, i + 1, by first | rfl | rw [wz], by omega, by omega, by rw [← rhL_row]; exact HM, HR, HB, hsw⟩
          case measure => first | (simp [intOf]; done) | (simp [intOf]; omega)
    · obtain rfl : i = N := by omega
      have HRG := Lib.hid HM.out.range
      have hthere := HR.out.there
      have HW : (wr.setCells (w.heap.size + 1) 0 (bkL i (gnL i i F) (rhL i i 0 F)).toArray.toList).rangeAt (w.heap.size + 1) 0 (bkL i (gnL i i F) (rhL i i 0 F)) := World.rangeAt_setCells_same wr (w.heap.size + 1) 0 (bkL i (gnL i i F) (rhL i i 0 F)) hthere
      have HBW : Below w.heap.size w (wr.setCells (w.heap.size + 1) 0 (bkL i (gnL i i F) (rhL i i 0 F)).toArray.toList) := below_setCells HB.out (by omega) _ _
      have HTH : Hid (wr.there (w.heap.size + 1) 0 (bkL i (gnL i i F) (rhL i i 0 F)).toArray.size) := Lib.hid hthere
      clear hthere HM HR HB HM3 HR3 HB3 hbx3 hs3
      go_upto_region 14 with fail
      refine wp_region_lit ?_
      (refine wpList_load_mid rfl 81 _ rfl g 0 rfl (bkL i (gnL i i F) (rhL i i 0 F)) _ HRG.out Try.underlying81 rfl (infoBk _ _ _) ?_)
      (refine wpList_store_mid rfl 81 _ _ rfl (w.heap.size + 1) 0 (bkL i (gnL i i F) (rhL i i 0 F)).toArray rfl rfl HTH.out (infoBk _ _ _) (all_oneCell_toArray (bkL_one _ _ _)) ?_)
      generalize wr.setCells (w.heap.size + 1) 0 (bkL i (gnL i i F) (rhL i i 0 F)).toArray.toList = wz at *
      have HW2 := Lib.hid HW
      have HBW2 := Lib.hid HBW
      clear HW HBW
      refine wpList_step (fun K hK => ?_); go_simp; refine hK _ _ ?_; clear hK K
      refine wpList_nil ?_
      go_wp2_with fail
      refine bodyPost_ret (v := .tuple #[.agg (bkL i (gnL i i F) (rhL i i 0 F)).toArray, .int .i64 0]) (results_cell_tmp rfl _ _ (w.heap.size + 1) 0 _ _ _ rfl rfl HW2.out Try.underlying81 rfl (infoBk _ _ _)) rfl ⟨rfl, HBW2.out⟩
end Go.Proofs.Ytdhlikedjephmaa
