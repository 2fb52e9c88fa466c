import Derived.Test.YtilclpldfoifkaaPp5
import Derived.Test.YtilclpldfoifkaaEat
import Derived.Deep.DeepCutAuto
namespace Encl
def dupR (p q r s : Rc) : Out Rc := (pasS p r).bind fun a => (pasS q s).bind fun b => .ok ⟨a, b⟩
def pasO (p q r s : Rc) : Out Rc := if okP p q r s = true then dupR p q r s else .bad 50
end Encl
namespace Go.Proofs.Ytilclpldfoifkaa
open Go.RowKit Encl
/-- What comes back with two spans. -/
def OutP : Out Rc → Ending
  | .ok x => .returned (.tuple #[.agg #[.int .i64 x.re.lo, .int .i64 x.re.hi], .agg #[.int .i64 x.im.lo, .int .i64 x.im.hi], .int .i64 0])
  | .bad k => .returned (.tuple #[.agg #[.int .i64 0, .int .i64 0], .agg #[.int .i64 0, .int .i64 0], .int .i64 k])

set_option maxRecDepth 100000 in
set_option maxHeartbeats 4000000 in
theorem attempt_passes (px : Addr) (o : Out Rc) (w : World) (H : ∀ w1, Below w.heap.size w w1 → Calls Try.prog 89 #[.pointer (some px)] w1 fun e w' => IsR e o ∧ Below w1.heap.size w1 w') :
    Calls Try.prog 88 #[.func (Fn.func 89) #[] #[.pointer (some px)]] w fun e w' => e = OutR o ∧ Below w.heap.size w w' := by
  have HH := Lib.hid H
  clear H
  have hmf : ∀ (fn : Fn) (first cap : Array Value) (w : World), (Instr.makeFunc fn first cap).run Try.prog w = .ok (.func fn first cap) w := fun _ _ _ _ => rfl
  go_enter_defers Try.func88, Try.ntmps88
  go_wp2_with fail
  refine (HH.out _ (by go_grown)).mono ?_
  rintro e w1 ⟨he, hb⟩
  have D1 : Below w.heap.size w w1 := Below.trans (by go_grown) (hb.mono (by first | omega | (simp; done) | (simp; omega)))
  have s1 : w.heap.size + 1 < w1.heap.size := by have hs := hb.size; (try simp at hs); omega
  have s0 : w.heap.size < w1.heap.size := by omega
  obtain ⟨k1, k2⟩ := bcl hb
  have d0 := (k1 w.heap.size 0 (by first | omega | (simp; done) | (simp; omega))).trans (by go_cell : _ = some (.int .i64 0))
  have f0 := (k2 w.heap.size 0 (by first | omega | (simp; done) | (simp; omega))).trans (by go_cell : _ = false)
  have d1 := (k1 w.heap.size 1 (by first | omega | (simp; done) | (simp; omega))).trans (by go_cell : _ = some (.int .i64 0))
  have f1 := (k2 w.heap.size 1 (by first | omega | (simp; done) | (simp; omega))).trans (by go_cell : _ = false)
  have d2 := (k1 w.heap.size 2 (by first | omega | (simp; done) | (simp; omega))).trans (by go_cell : _ = some (.int .i64 0))
  have f2 := (k2 w.heap.size 2 (by first | omega | (simp; done) | (simp; omega))).trans (by go_cell : _ = false)
  have d3 := (k1 w.heap.size 3 (by first | omega | (simp; done) | (simp; omega))).trans (by go_cell : _ = some (.int .i64 0))
  have f3 := (k2 w.heap.size 3 (by first | omega | (simp; done) | (simp; omega))).trans (by go_cell : _ = false)
  have d'0 := (k1 (w.heap.size + 1) 0 (by first | omega | (simp; done) | (simp; omega))).trans (by go_cell : _ = some (.int .i64 0))
  have f'0 := (k2 (w.heap.size + 1) 0 (by first | omega | (simp; done) | (simp; omega))).trans (by go_cell : _ = false)
  clear hb k1 k2
  rcases o with ⟨⟨p, q⟩, ⟨s, t⟩⟩ | k
  · obtain rfl : e = .returned (.agg #[.int .i64 p, .int .i64 q, .int .i64 s, .int .i64 t]) := he
    go_wp2_with fail
    refine leaves_cons (f := 123) (args := #[.pointer (some ⟨w.heap.size + 1, 0, none⟩)]) (by simp) (by simp [go_sem]) ?_
    refine (catchD_idle ⟨w.heap.size + 1, 0, none⟩ _).mono ?_
    rintro e u' w2 ⟨rfl, rfl, rfl⟩
    simp [Leaves, settle, results, Try.results88, go_sem, *]
    exact ⟨rfl, by go_grown⟩
  · obtain rfl : e = .panicked [{ v := .iface 26 (.int .i64 k), recovered := false }] := he
    go_wp2_with fail
    refine leaves_cons (f := 123) (args := #[.pointer (some ⟨w.heap.size + 1, 0, none⟩)]) (by simp) (by simp [go_sem]) ?_
    refine (catchD_panicking ⟨w.heap.size + 1, 0, none⟩ 0 k [] _ ?_ ?_).mono ?_
    · go_cell
    · go_cell
    rintro e u' w2 ⟨rfl, rfl, rfl⟩
    simp [Leaves, settle, results, Try.results88, go_sem, *]
    exact ⟨rfl, by go_grown⟩

set_option maxRecDepth 100000 in
set_option maxHeartbeats 4000000 in
theorem passesC_any (a0 b0 c0 d0 a1 b1 c1 d1 a2 b2 c2 d2 a3 b3 c3 d3 : Int) (g : Nat) (w : World) (h : okP ⟨⟨a0, b0⟩, ⟨c0, d0⟩⟩ ⟨⟨a1, b1⟩, ⟨c1, d1⟩⟩ ⟨⟨a2, b2⟩, ⟨c2, d2⟩⟩ ⟨⟨a3, b3⟩, ⟨c3, d3⟩⟩ = true) (hc : w.cell? ⟨g, 0, none⟩ = some (.int .i64 a0) ∧ w.cell? ⟨g, 1, none⟩ = some (.int .i64 b0) ∧ w.cell? ⟨g, 2, none⟩ = some (.int .i64 c0) ∧ w.cell? ⟨g, 3, none⟩ = some (.int .i64 d0) ∧ w.cell? ⟨g, 4, none⟩ = some (.int .i64 a1) ∧ w.cell? ⟨g, 5, none⟩ = some (.int .i64 b1) ∧ w.cell? ⟨g, 6, none⟩ = some (.int .i64 c1) ∧ w.cell? ⟨g, 7, none⟩ = some (.int .i64 d1) ∧ w.cell? ⟨g, 8, none⟩ = some (.int .i64 a2) ∧ w.cell? ⟨g, 9, none⟩ = some (.int .i64 b2) ∧ w.cell? ⟨g, 10, none⟩ = some (.int .i64 c2) ∧ w.cell? ⟨g, 11, none⟩ = some (.int .i64 d2) ∧ w.cell? ⟨g, 12, none⟩ = some (.int .i64 a3) ∧ w.cell? ⟨g, 13, none⟩ = some (.int .i64 b3) ∧ w.cell? ⟨g, 14, none⟩ = some (.int .i64 c3) ∧ w.cell? ⟨g, 15, none⟩ = some (.int .i64 d3)) :
    Calls Try.prog 89 #[.pointer (some ⟨g, 0, none⟩)] w fun e w' => IsR e (dupR ⟨⟨a0, b0⟩, ⟨c0, d0⟩⟩ ⟨⟨a1, b1⟩, ⟨c1, d1⟩⟩ ⟨⟨a2, b2⟩, ⟨c2, d2⟩⟩ ⟨⟨a3, b3⟩, ⟨c3, d3⟩⟩) ∧ Below w.heap.size w w' := by
  obtain ⟨SP, hsp⟩ : ∃ SP, dupR ⟨⟨a0, b0⟩, ⟨c0, d0⟩⟩ ⟨⟨a1, b1⟩, ⟨c1, d1⟩⟩ ⟨⟨a2, b2⟩, ⟨c2, d2⟩⟩ ⟨⟨a3, b3⟩, ⟨c3, d3⟩⟩ = SP := ⟨_, rfl⟩
  have HSP := Lib.hid hsp
  rw [hsp]
  clear hsp
  have HOK := Lib.hid h
  clear h
  obtain ⟨cc0, cc1, cc2, cc3, cc4, cc5, cc6, cc7, cc8, cc9, cc10, cc11, cc12, cc13, cc14, cc15⟩ := hc
  have hg : g < w.heap.size := World.block_lt_of_cell? w _ cc0
  go_enter Try.func89, Try.ntmps89
  go_wp2_with fail
  have hb0 : Below w.heap.size w (w.alloc (Obj.cells #[.int .i64 0, .int .i64 0, .int .i64 0, .int .i64 0] 89)) := by go_grown
  have dd0 : (w.alloc (Obj.cells #[.int .i64 0, .int .i64 0, .int .i64 0, .int .i64 0] 89)).cell? ⟨w.heap.size, 0, none⟩ = some (.int .i64 0) := by go_cell
  have ff0 : (w.alloc (Obj.cells #[.int .i64 0, .int .i64 0, .int .i64 0, .int .i64 0] 89)).frozen? ⟨w.heap.size, 0, none⟩ = false := by go_cell
  have dd1 : (w.alloc (Obj.cells #[.int .i64 0, .int .i64 0, .int .i64 0, .int .i64 0] 89)).cell? ⟨w.heap.size, 1, none⟩ = some (.int .i64 0) := by go_cell
  have ff1 : (w.alloc (Obj.cells #[.int .i64 0, .int .i64 0, .int .i64 0, .int .i64 0] 89)).frozen? ⟨w.heap.size, 1, none⟩ = false := by go_cell
  have dd2 : (w.alloc (Obj.cells #[.int .i64 0, .int .i64 0, .int .i64 0, .int .i64 0] 89)).cell? ⟨w.heap.size, 2, none⟩ = some (.int .i64 0) := by go_cell
  have ff2 : (w.alloc (Obj.cells #[.int .i64 0, .int .i64 0, .int .i64 0, .int .i64 0] 89)).frozen? ⟨w.heap.size, 2, none⟩ = false := by go_cell
  have dd3 : (w.alloc (Obj.cells #[.int .i64 0, .int .i64 0, .int .i64 0, .int .i64 0] 89)).cell? ⟨w.heap.size, 3, none⟩ = some (.int .i64 0) := by go_cell
  have ff3 : (w.alloc (Obj.cells #[.int .i64 0, .int .i64 0, .int .i64 0, .int .i64 0] 89)).frozen? ⟨w.heap.size, 3, none⟩ = false := by go_cell
  have ec0 := (hb0.cell (p := ⟨g, 0, none⟩) hg).trans cc0
  have ec1 := (hb0.cell (p := ⟨g, 1, none⟩) hg).trans cc1
  have ec2 := (hb0.cell (p := ⟨g, 2, none⟩) hg).trans cc2
  have ec3 := (hb0.cell (p := ⟨g, 3, none⟩) hg).trans cc3
  have ec4 := (hb0.cell (p := ⟨g, 4, none⟩) hg).trans cc4
  have ec5 := (hb0.cell (p := ⟨g, 5, none⟩) hg).trans cc5
  have ec6 := (hb0.cell (p := ⟨g, 6, none⟩) hg).trans cc6
  have ec7 := (hb0.cell (p := ⟨g, 7, none⟩) hg).trans cc7
  have ec8 := (hb0.cell (p := ⟨g, 8, none⟩) hg).trans cc8
  have ec9 := (hb0.cell (p := ⟨g, 9, none⟩) hg).trans cc9
  have ec10 := (hb0.cell (p := ⟨g, 10, none⟩) hg).trans cc10
  have ec11 := (hb0.cell (p := ⟨g, 11, none⟩) hg).trans cc11
  have ec12 := (hb0.cell (p := ⟨g, 12, none⟩) hg).trans cc12
  have ec13 := (hb0.cell (p := ⟨g, 13, none⟩) hg).trans cc13
  have ec14 := (hb0.cell (p := ⟨g, 14, none⟩) hg).trans cc14
  have ec15 := (hb0.cell (p := ⟨g, 15, none⟩) hg).trans cc15
  have hsz : w.heap.size < (w.alloc (Obj.cells #[.int .i64 0, .int .i64 0, .int .i64 0, .int .i64 0] 89)).heap.size := by simp
  clear cc0 cc1 cc2 cc3 cc4 cc5 cc6 cc7 cc8 cc9 cc10 cc11 cc12 cc13 cc14 cc15
  generalize (w.alloc (Obj.cells #[.int .i64 0, .int .i64 0, .int .i64 0, .int .i64 0] 89)) = W at *
  have hgW : g < W.heap.size := by omega
  have G0 : Hid (∀ w', Below W.heap.size W w' → w'.cell? ⟨g, 0, none⟩ = some (.int .i64 a0) ∧ w'.cell? ⟨g, 1, none⟩ = some (.int .i64 b0) ∧ w'.cell? ⟨g, 2, none⟩ = some (.int .i64 c0) ∧ w'.cell? ⟨g, 3, none⟩ = some (.int .i64 d0) ∧ w'.cell? ⟨g, 4, none⟩ = some (.int .i64 a1) ∧ w'.cell? ⟨g, 5, none⟩ = some (.int .i64 b1) ∧ w'.cell? ⟨g, 6, none⟩ = some (.int .i64 c1) ∧ w'.cell? ⟨g, 7, none⟩ = some (.int .i64 d1) ∧ w'.cell? ⟨g, 8, none⟩ = some (.int .i64 a2) ∧ w'.cell? ⟨g, 9, none⟩ = some (.int .i64 b2) ∧ w'.cell? ⟨g, 10, none⟩ = some (.int .i64 c2) ∧ w'.cell? ⟨g, 11, none⟩ = some (.int .i64 d2) ∧ w'.cell? ⟨g, 12, none⟩ = some (.int .i64 a3) ∧ w'.cell? ⟨g, 13, none⟩ = some (.int .i64 b3) ∧ w'.cell? ⟨g, 14, none⟩ = some (.int .i64 c3) ∧ w'.cell? ⟨g, 15, none⟩ = some (.int .i64 d3)) := Lib.hid (fun w' hb => ⟨(hb.cell (p := ⟨g, 0, none⟩) hgW).trans ec0, (hb.cell (p := ⟨g, 1, none⟩) hgW).trans ec1, (hb.cell (p := ⟨g, 2, none⟩) hgW).trans ec2, (hb.cell (p := ⟨g, 3, none⟩) hgW).trans ec3, (hb.cell (p := ⟨g, 4, none⟩) hgW).trans ec4, (hb.cell (p := ⟨g, 5, none⟩) hgW).trans ec5, (hb.cell (p := ⟨g, 6, none⟩) hgW).trans ec6, (hb.cell (p := ⟨g, 7, none⟩) hgW).trans ec7, (hb.cell (p := ⟨g, 8, none⟩) hgW).trans ec8, (hb.cell (p := ⟨g, 9, none⟩) hgW).trans ec9, (hb.cell (p := ⟨g, 10, none⟩) hgW).trans ec10, (hb.cell (p := ⟨g, 11, none⟩) hgW).trans ec11, (hb.cell (p := ⟨g, 12, none⟩) hgW).trans ec12, (hb.cell (p := ⟨g, 13, none⟩) hgW).trans ec13, (hb.cell (p := ⟨g, 14, none⟩) hgW).trans ec14, (hb.cell (p := ⟨g, 15, none⟩) hgW).trans ec15⟩)
  have G1 : Hid (∀ w', Below W.heap.size W w' → w'.cell? ⟨w.heap.size, 0, none⟩ = some (.int .i64 0) ∧ w'.cell? ⟨w.heap.size, 1, none⟩ = some (.int .i64 0) ∧ w'.cell? ⟨w.heap.size, 2, none⟩ = some (.int .i64 0) ∧ w'.cell? ⟨w.heap.size, 3, none⟩ = some (.int .i64 0) ∧ w'.frozen? ⟨w.heap.size, 0, none⟩ = false ∧ w'.frozen? ⟨w.heap.size, 1, none⟩ = false ∧ w'.frozen? ⟨w.heap.size, 2, none⟩ = false ∧ w'.frozen? ⟨w.heap.size, 3, none⟩ = false) := Lib.hid (fun w' hb => ⟨(hb.cell (p := ⟨w.heap.size, 0, none⟩) hsz).trans dd0, (hb.cell (p := ⟨w.heap.size, 1, none⟩) hsz).trans dd1, (hb.cell (p := ⟨w.heap.size, 2, none⟩) hsz).trans dd2, (hb.cell (p := ⟨w.heap.size, 3, none⟩) hsz).trans dd3, (hb.frozen (p := ⟨w.heap.size, 0, none⟩) hsz).trans ff0, (hb.frozen (p := ⟨w.heap.size, 1, none⟩) hsz).trans ff1, (hb.frozen (p := ⟨w.heap.size, 2, none⟩) hsz).trans ff2, (hb.frozen (p := ⟨w.heap.size, 3, none⟩) hsz).trans ff3⟩)
  have HB0 := Lib.hid hb0
  clear hb0 ec0 ec1 ec2 ec3 ec4 ec5 ec6 ec7 ec8 ec9 ec10 ec11 ec12 ec13 ec14 ec15 dd0 ff0 dd1 ff1 dd2 ff2 dd3 ff3
  have HD : Below W.heap.size W W := Below.refl _ _
  have nrg : ¬ w.heap.size = g := by omega
  have HD1 : Below W.heap.size W W.drew := HD.drew
  refine wp_region_held_drew (S := fun w' => w'.cell? ⟨g, 0, none⟩ = some (.int .i64 a0) ∧ w'.cell? ⟨g, 1, none⟩ = some (.int .i64 b0) ∧ w'.cell? ⟨g, 2, none⟩ = some (.int .i64 c0) ∧ w'.cell? ⟨g, 3, none⟩ = some (.int .i64 d0) ∧ w'.cell? ⟨g, 4, none⟩ = some (.int .i64 a1) ∧ w'.cell? ⟨g, 5, none⟩ = some (.int .i64 b1) ∧ w'.cell? ⟨g, 6, none⟩ = some (.int .i64 c1) ∧ w'.cell? ⟨g, 7, none⟩ = some (.int .i64 d1) ∧ w'.cell? ⟨g, 8, none⟩ = some (.int .i64 a2) ∧ w'.cell? ⟨g, 9, none⟩ = some (.int .i64 b2) ∧ w'.cell? ⟨g, 10, none⟩ = some (.int .i64 c2) ∧ w'.cell? ⟨g, 11, none⟩ = some (.int .i64 d2) ∧ w'.cell? ⟨g, 12, none⟩ = some (.int .i64 a3) ∧ w'.cell? ⟨g, 13, none⟩ = some (.int .i64 b3) ∧ w'.cell? ⟨g, 14, none⟩ = some (.int .i64 c3) ∧ w'.cell? ⟨g, 15, none⟩ = some (.int .i64 d3)) (by kernel_rfl) (G0.out _ HD1) (fun hHeld => ?_)
  refine wpAnyH_take (i := 0) (oi := _) (v := ?_) rfl (by kernel_rfl) (by kernel_rfl) (by kernel_rfl) (fun _ _ _ h => h) (Or.inl ⟨by rfl, ?_⟩) (by assumption) ?_
  rotate_left
  · intro w hSw; obtain ⟨_, _, _, _, _, _, _, _, _, _, _, _, _, _, _, _⟩ := hSw; go_simp; (try with_reducible rfl)
  try change wpAnyH _ _ _ _ _ _ _ (Act.put _ (some 2) _) _
  try simp only [act_all]
  refine wpAnyH_take (i := 2) (oi := _) (v := ?_) rfl (by kernel_rfl) (by kernel_rfl) (by kernel_rfl) (fun _ _ _ h => h) (Or.inl ⟨by rfl, ?_⟩) (by assumption) ?_
  rotate_left
  · intro w hSw; obtain ⟨_, _, _, _, _, _, _, _, _, _, _, _, _, _, _, _⟩ := hSw; go_simp; (try with_reducible rfl)
  try change wpAnyH _ _ _ _ _ _ _ (Act.put _ (some 4) _) _
  try simp only [act_all]
  refine wpAnyH_ready (rs := [1]) (by kernel_rfl) (by simp) ?_
  refine AllReadyH.cons (o := _) rfl (fun K hK => ?_) AllReadyH.nil
  go_simp
  refine (passed0_any a0 b0 c0 d0 a1 b1 c1 d1 a2 b2 c2 d2 a3 b3 c3 d3 _ HOK.out).mono ?_
  rintro e w2 ⟨he, hb⟩
  have HD2 : Below W.heap.size W w2 := Below.trans HD1 (hb.mono HD1.size)
  have hz2 := HD2.size
  have DA2 := HB0.out.trans (HD2.mono (show w.heap.size ≤ W.heap.size by omega))
  clear hb hHeld
  obtain ⟨r, hr⟩ : ∃ r, (pasS ⟨⟨a0, b0⟩, ⟨c0, d0⟩⟩ ⟨⟨a2, b2⟩, ⟨c2, d2⟩⟩) = r := ⟨_, rfl⟩
  rw [hr] at he
  have HR0 := Lib.hid hr
  clear hr
  rcases r with ⟨y1, y2⟩ | k
  case' bad =>
    obtain rfl : e = .panicked [{ v := .iface 26 (.int .i64 k), recovered := false }] := he
    refine ⟨rfl, ?_, by go_grown⟩
    rw [← HSP.out]; simp only [dupR, HR0.out, Out.binds, IsR]; (try rfl)
  obtain rfl : e = .returned (.agg #[.int .i64 y1, .int .i64 y2]) := he
  refine hK.out _ _ (G0.out _ HD2) (fun hHeld => ?_)
  clear hK K
  try simp only [act_all]
  refine wpAnyH_ready (rs := [3]) (by kernel_rfl) (by simp) ?_
  refine AllReadyH.cons (o := _) rfl (fun K hK => ?_) AllReadyH.nil
  go_simp
  refine (passed1_any a0 b0 c0 d0 a1 b1 c1 d1 a2 b2 c2 d2 a3 b3 c3 d3 _ HOK.out).mono ?_
  rintro e w3 ⟨he, hb⟩
  have HD3 : Below W.heap.size W w3 := Below.trans HD2 (hb.mono HD2.size)
  have hz3 := HD3.size
  have DA3 := HB0.out.trans (HD3.mono (show w.heap.size ≤ W.heap.size by omega))
  clear hb hHeld
  obtain ⟨r, hr⟩ : ∃ r, (pasS ⟨⟨a1, b1⟩, ⟨c1, d1⟩⟩ ⟨⟨a3, b3⟩, ⟨c3, d3⟩⟩) = r := ⟨_, rfl⟩
  rw [hr] at he
  have HR1 := Lib.hid hr
  clear hr
  rcases r with ⟨z1, z2⟩ | k
  case' bad =>
    obtain rfl : e = .panicked [{ v := .iface 26 (.int .i64 k), recovered := false }] := he
    refine ⟨rfl, ?_, by go_grown⟩
    rw [← HSP.out]; simp only [dupR, HR0.out, HR1.out, Out.binds, IsR]; (try rfl)
  obtain rfl : e = .returned (.agg #[.int .i64 z1, .int .i64 z2]) := he
  refine hK.out _ _ (G0.out _ HD3) (fun hHeld => ?_)
  clear hK K
  try simp only [act_all]
  refine wpAnyH_take (i := 4) (oi := _) (v := ?_) rfl (by kernel_rfl) (by kernel_rfl) (by kernel_rfl) (fun _ _ _ h => h) (Or.inl ⟨by rfl, ?_⟩) (by assumption) ?_
  rotate_left
  · intro w hSw; obtain ⟨_, _, _, _, _, _, _, _, _, _, _, _, _, _, _, _⟩ := hSw; go_simp; (try with_reducible rfl)
  try change wpAnyH _ _ _ _ _ _ _ (Act.put _ (some 6) _) _
  try simp only [act_all]
  refine wpAnyH_ready (rs := [5]) (by kernel_rfl) (by simp) ?_
  refine AllReadyH.cons (o := _) rfl (fun K hK => ?_) AllReadyH.nil
  obtain ⟨_, _, _, _, _, _, _, _, _, _, _, _, _, _, _, _⟩ := G0.out _ HD3
  obtain ⟨_, _, _, _, _, _, _, _⟩ := G1.out _ HD3
  have ngl : g < w3.heap.size := by omega
  go_simp
  refine hK.out _ _ (by refine ⟨?_, ?_, ?_, ?_, ?_, ?_, ?_, ?_, ?_, ?_, ?_, ?_, ?_, ?_, ?_, ?_⟩ <;> go_cell) (fun hHeld => ?_)
  clear hK K
  try simp only [act_all]
  refine wpAnyH_done (by kernel_rfl) ?_ _
  go_wp2_with fail
  refine bodyPost_ret (v := .agg #[.int .i64 y1, .int .i64 y2, .int .i64 z1, .int .i64 z2]) (by simp [results, Try.results89, go_sem, *]) rfl ⟨?_, by go_grown⟩
  rw [← HSP.out]; simp only [dupR, HR0.out, HR1.out, Out.binds, IsR]; (try rfl)

set_option maxRecDepth 100000 in
set_option maxHeartbeats 4000000 in
theorem ePasses_any (a0 b0 c0 d0 a1 b1 c1 d1 a2 b2 c2 d2 a3 b3 c3 d3 : Int) (w : World) :
    Calls Try.prog 44 #[.agg #[.int .i64 a0, .int .i64 b0, .int .i64 c0, .int .i64 d0, .int .i64 a1, .int .i64 b1, .int .i64 c1, .int .i64 d1, .int .i64 a2, .int .i64 b2, .int .i64 c2, .int .i64 d2, .int .i64 a3, .int .i64 b3, .int .i64 c3, .int .i64 d3]] w fun e w' => e = OutP (pasO ⟨⟨a0, b0⟩, ⟨c0, d0⟩⟩ ⟨⟨a1, b1⟩, ⟨c1, d1⟩⟩ ⟨⟨a2, b2⟩, ⟨c2, d2⟩⟩ ⟨⟨a3, b3⟩, ⟨c3, d3⟩⟩) ∧ Below w.heap.size w w' := by
  have hmf : ∀ (fn : Fn) (first cap : Array Value) (w : World), (Instr.makeFunc fn first cap).run Try.prog w = .ok (.func fn first cap) w := fun _ _ _ _ => rfl
  obtain ⟨SP, hsp⟩ : ∃ SP, pasO ⟨⟨a0, b0⟩, ⟨c0, d0⟩⟩ ⟨⟨a1, b1⟩, ⟨c1, d1⟩⟩ ⟨⟨a2, b2⟩, ⟨c2, d2⟩⟩ ⟨⟨a3, b3⟩, ⟨c3, d3⟩⟩ = SP := ⟨_, rfl⟩
  have HSP := Lib.hid hsp
  rw [hsp]
  clear hsp
  obtain ⟨bb, hbb⟩ : ∃ bb, okP ⟨⟨a0, b0⟩, ⟨c0, d0⟩⟩ ⟨⟨a1, b1⟩, ⟨c1, d1⟩⟩ ⟨⟨a2, b2⟩, ⟨c2, d2⟩⟩ ⟨⟨a3, b3⟩, ⟨c3, d3⟩⟩ = bb := ⟨_, rfl⟩
  have HBB := Lib.hid hbb
  clear hbb
  go_enter Try.func44, Try.ntmps44
  go_wp2_with fail
  refine (eValidPort_any a0 b0 c0 d0 a1 b1 c1 d1 a2 b2 c2 d2 a3 b3 c3 d3 _).mono ?_
  rw [HBB.out]
  rintro e w1 ⟨rfl, hb⟩
  have D1 : Below w.heap.size w w1 := Below.trans (by go_grown) (hb.mono (by first | omega | (simp; done) | (simp; omega)))
  have s1 : w.heap.size + 1 + 1 < w1.heap.size := by have hs := hb.size; (try simp at hs); omega
  have s1a : w.heap.size + 1 < w1.heap.size := by omega
  have s1b : w.heap.size < w1.heap.size := by omega
  obtain ⟨k1, k2⟩ := bcl hb
  have x0 := (k1 (w.heap.size) 0 (by first | omega | (simp; done) | (simp; omega))).trans (by go_cell : _ = some (.int .i64 a0))
  have x1 := (k1 (w.heap.size) 1 (by first | omega | (simp; done) | (simp; omega))).trans (by go_cell : _ = some (.int .i64 b0))
  have x2 := (k1 (w.heap.size) 2 (by first | omega | (simp; done) | (simp; omega))).trans (by go_cell : _ = some (.int .i64 c0))
  have x3 := (k1 (w.heap.size) 3 (by first | omega | (simp; done) | (simp; omega))).trans (by go_cell : _ = some (.int .i64 d0))
  have x4 := (k1 (w.heap.size) 4 (by first | omega | (simp; done) | (simp; omega))).trans (by go_cell : _ = some (.int .i64 a1))
  have x5 := (k1 (w.heap.size) 5 (by first | omega | (simp; done) | (simp; omega))).trans (by go_cell : _ = some (.int .i64 b1))
  have x6 := (k1 (w.heap.size) 6 (by first | omega | (simp; done) | (simp; omega))).trans (by go_cell : _ = some (.int .i64 c1))
  have x7 := (k1 (w.heap.size) 7 (by first | omega | (simp; done) | (simp; omega))).trans (by go_cell : _ = some (.int .i64 d1))
  have x8 := (k1 (w.heap.size) 8 (by first | omega | (simp; done) | (simp; omega))).trans (by go_cell : _ = some (.int .i64 a2))
  have x9 := (k1 (w.heap.size) 9 (by first | omega | (simp; done) | (simp; omega))).trans (by go_cell : _ = some (.int .i64 b2))
  have x10 := (k1 (w.heap.size) 10 (by first | omega | (simp; done) | (simp; omega))).trans (by go_cell : _ = some (.int .i64 c2))
  have x11 := (k1 (w.heap.size) 11 (by first | omega | (simp; done) | (simp; omega))).trans (by go_cell : _ = some (.int .i64 d2))
  have x12 := (k1 (w.heap.size) 12 (by first | omega | (simp; done) | (simp; omega))).trans (by go_cell : _ = some (.int .i64 a3))
  have x13 := (k1 (w.heap.size) 13 (by first | omega | (simp; done) | (simp; omega))).trans (by go_cell : _ = some (.int .i64 b3))
  have x14 := (k1 (w.heap.size) 14 (by first | omega | (simp; done) | (simp; omega))).trans (by go_cell : _ = some (.int .i64 c3))
  have x15 := (k1 (w.heap.size) 15 (by first | omega | (simp; done) | (simp; omega))).trans (by go_cell : _ = some (.int .i64 d3))
  have dd10 := (k1 (w.heap.size + 1) 0 (by first | omega | (simp; done) | (simp; omega))).trans (by go_cell : _ = some (.int .i64 0))
  have ff10 := (k2 (w.heap.size + 1) 0 (by first | omega | (simp; done) | (simp; omega))).trans (by go_cell : _ = false)
  have dd11 := (k1 (w.heap.size + 1) 1 (by first | omega | (simp; done) | (simp; omega))).trans (by go_cell : _ = some (.int .i64 0))
  have ff11 := (k2 (w.heap.size + 1) 1 (by first | omega | (simp; done) | (simp; omega))).trans (by go_cell : _ = false)
  have dd20 := (k1 (w.heap.size + 1 + 1) 0 (by first | omega | (simp; done) | (simp; omega))).trans (by go_cell : _ = some (.int .i64 0))
  have ff20 := (k2 (w.heap.size + 1 + 1) 0 (by first | omega | (simp; done) | (simp; omega))).trans (by go_cell : _ = false)
  have dd21 := (k1 (w.heap.size + 1 + 1) 1 (by first | omega | (simp; done) | (simp; omega))).trans (by go_cell : _ = some (.int .i64 0))
  have ff21 := (k2 (w.heap.size + 1 + 1) 1 (by first | omega | (simp; done) | (simp; omega))).trans (by go_cell : _ = false)
  clear hb k1 k2
  cases bb with
  | false =>
    have HN : Hid (SP = .bad 50) := Lib.hid (by rw [← HSP.out]; unfold pasO; rw [if_neg (by rw [HBB.out]; decide)])
    clear x0 x1 x2 x3 x4 x5 x6 x7 x8 x9 x10 x11 x12 x13 x14 x15
    go_wp2_with fail
    refine bodyPost_ret (v := .tuple #[.agg #[.int .i64 0, .int .i64 0], .agg #[.int .i64 0, .int .i64 0], .int .i64 50]) (by simp [results, Try.results44, go_sem, *]) rfl ⟨by rw [HN.out]; rfl, by go_grown⟩
  | true =>
    have HN : Hid (dupR ⟨⟨a0, b0⟩, ⟨c0, d0⟩⟩ ⟨⟨a1, b1⟩, ⟨c1, d1⟩⟩ ⟨⟨a2, b2⟩, ⟨c2, d2⟩⟩ ⟨⟨a3, b3⟩, ⟨c3, d3⟩⟩ = SP) := Lib.hid (by rw [← HSP.out]; unfold pasO; rw [if_pos HBB.out])
    go_wp2_with fail
    refine (attempt_passes ⟨w.heap.size, 0, none⟩ SP _ (fun w2 hb => by
      rw [← HN.out]
      exact passesC_any a0 b0 c0 d0 a1 b1 c1 d1 a2 b2 c2 d2 a3 b3 c3 d3 w.heap.size w2 HBB.out ⟨(hb.cell (p := ⟨w.heap.size, 0, none⟩) s1b).trans x0, (hb.cell (p := ⟨w.heap.size, 1, none⟩) s1b).trans x1, (hb.cell (p := ⟨w.heap.size, 2, none⟩) s1b).trans x2, (hb.cell (p := ⟨w.heap.size, 3, none⟩) s1b).trans x3, (hb.cell (p := ⟨w.heap.size, 4, none⟩) s1b).trans x4, (hb.cell (p := ⟨w.heap.size, 5, none⟩) s1b).trans x5, (hb.cell (p := ⟨w.heap.size, 6, none⟩) s1b).trans x6, (hb.cell (p := ⟨w.heap.size, 7, none⟩) s1b).trans x7, (hb.cell (p := ⟨w.heap.size, 8, none⟩) s1b).trans x8, (hb.cell (p := ⟨w.heap.size, 9, none⟩) s1b).trans x9, (hb.cell (p := ⟨w.heap.size, 10, none⟩) s1b).trans x10, (hb.cell (p := ⟨w.heap.size, 11, none⟩) s1b).trans x11, (hb.cell (p := ⟨w.heap.size, 12, none⟩) s1b).trans x12, (hb.cell (p := ⟨w.heap.size, 13, none⟩) s1b).trans x13, (hb.cell (p := ⟨w.heap.size, 14, none⟩) s1b).trans x14, (hb.cell (p := ⟨w.heap.size, 15, none⟩) s1b).trans x15⟩)).mono ?_
    rintro e w3 ⟨rfl, hb⟩
    have D3 : Below w.heap.size w w3 := Below.trans D1 (hb.mono D1.size)
    have s3 : w.heap.size + 1 + 1 < w3.heap.size := by have hs := hb.size; omega
    have s3a : w.heap.size + 1 < w3.heap.size := by omega
    obtain ⟨k1, k2⟩ := bcl hb
    have ed10 := (k1 (w.heap.size + 1) 0 (by omega)).trans dd10
    have ef10 := (k2 (w.heap.size + 1) 0 (by omega)).trans ff10
    have ed11 := (k1 (w.heap.size + 1) 1 (by omega)).trans dd11
    have ef11 := (k2 (w.heap.size + 1) 1 (by omega)).trans ff11
    have ed20 := (k1 (w.heap.size + 1 + 1) 0 (by omega)).trans dd20
    have ef20 := (k2 (w.heap.size + 1 + 1) 0 (by omega)).trans ff20
    have ed21 := (k1 (w.heap.size + 1 + 1) 1 (by omega)).trans dd21
    have ef21 := (k2 (w.heap.size + 1 + 1) 1 (by omega)).trans ff21
    clear hb k1 k2 D1 s1 s1a s1b x0 x1 x2 x3 x4 x5 x6 x7 x8 x9 x10 x11 x12 x13 x14 x15 dd10 dd11 dd20 dd21 ff10 ff11 ff20 ff21
    obtain ⟨p1, q1, p2, q2, er, hE, hP⟩ : ∃ p1 q1 p2 q2 er : Int, OutR SP = .returned (.tuple #[.agg #[.int .i64 p1, .int .i64 q1, .int .i64 p2, .int .i64 q2], .int .i64 er]) ∧ OutP SP = .returned (.tuple #[.agg #[.int .i64 p1, .int .i64 q1], .agg #[.int .i64 p2, .int .i64 q2], .int .i64 er]) := by
      cases SP with
      | ok x => exact ⟨_, _, _, _, _, rfl, rfl⟩
      | bad k => exact ⟨0, 0, 0, 0, k, rfl, rfl⟩
    rw [hE]
    have HPP := Lib.hid hP
    clear hE hP
    (try simp only)
    go_upto_region 4 with fail
    have b3 : Below w3.heap.size w3 (w3.alloc (Obj.cells #[.int .i64 p1, .int .i64 q1, .int .i64 p2, .int .i64 q2] 89)) := bal (Below.refl _ _) _
    have D4 := D3.trans (b3.mono D3.size)
    have m0 : (w3.alloc (Obj.cells #[.int .i64 p1, .int .i64 q1, .int .i64 p2, .int .i64 q2] 89)).cell? ⟨w3.heap.size, 0, none⟩ = some (.int .i64 p1) := by go_cell
    have m1 : (w3.alloc (Obj.cells #[.int .i64 p1, .int .i64 q1, .int .i64 p2, .int .i64 q2] 89)).cell? ⟨w3.heap.size, 1, none⟩ = some (.int .i64 q1) := by go_cell
    have m2 : (w3.alloc (Obj.cells #[.int .i64 p1, .int .i64 q1, .int .i64 p2, .int .i64 q2] 89)).cell? ⟨w3.heap.size, 2, none⟩ = some (.int .i64 p2) := by go_cell
    have m3 : (w3.alloc (Obj.cells #[.int .i64 p1, .int .i64 q1, .int .i64 p2, .int .i64 q2] 89)).cell? ⟨w3.heap.size, 3, none⟩ = some (.int .i64 q2) := by go_cell
    have gd10 := (b3.cell (p := ⟨w.heap.size + 1, 0, none⟩) s3a).trans ed10
    have gf10 := (b3.frozen (p := ⟨w.heap.size + 1, 0, none⟩) s3a).trans ef10
    have gd11 := (b3.cell (p := ⟨w.heap.size + 1, 1, none⟩) s3a).trans ed11
    have gf11 := (b3.frozen (p := ⟨w.heap.size + 1, 1, none⟩) s3a).trans ef11
    have gd20 := (b3.cell (p := ⟨w.heap.size + 1 + 1, 0, none⟩) s3).trans ed20
    have gf20 := (b3.frozen (p := ⟨w.heap.size + 1 + 1, 0, none⟩) s3).trans ef20
    have gd21 := (b3.cell (p := ⟨w.heap.size + 1 + 1, 1, none⟩) s3).trans ed21
    have gf21 := (b3.frozen (p := ⟨w.heap.size + 1 + 1, 1, none⟩) s3).trans ef21
    have n1 : ¬ w3.heap.size = w.heap.size + 1 := by omega
    have n2 : ¬ w3.heap.size = w.heap.size + 1 + 1 := by omega
    have n3 : ¬ w.heap.size + 1 = w.heap.size + 1 + 1 := by omega
    have n4 : ¬ w.heap.size + 1 + 1 = w.heap.size + 1 := by omega
    have sE : w.heap.size + 1 + 1 < (w3.alloc (Obj.cells #[.int .i64 p1, .int .i64 q1, .int .i64 p2, .int .i64 q2] 89)).heap.size := by simp; omega
    clear b3 D3 ed10 ed11 ed20 ed21 ef10 ef11 ef20 ef21
    generalize (w3.alloc (Obj.cells #[.int .i64 p1, .int .i64 q1, .int .i64 p2, .int .i64 q2] 89)) = U at *
    generalize w3.heap.size = PB at *
    refine wp_region_held_drew (S := fun w' => w'.cell? ⟨PB, 0, none⟩ = some (.int .i64 p1) ∧ w'.cell? ⟨PB, 1, none⟩ = some (.int .i64 q1) ∧ w'.cell? ⟨PB, 2, none⟩ = some (.int .i64 p2) ∧ w'.cell? ⟨PB, 3, none⟩ = some (.int .i64 q2)) (by kernel_rfl) ⟨m0, m1, m2, m3⟩ (fun hHeld => ?_)
    refine wpAnyH_take (i := 0) (oi := _) (v := ?_) rfl (by kernel_rfl) (by kernel_rfl) (by kernel_rfl) (fun _ _ _ h => h) (Or.inl ⟨by rfl, ?_⟩) (by assumption) ?_
    rotate_left
    · intro w hSw; obtain ⟨_, _, _, _⟩ := hSw; go_simp; (try with_reducible rfl)
    try change wpAnyH _ _ _ _ _ _ _ (Act.put _ (some 17) _) _
    try simp only [act_all]
    refine wpAnyH_take (i := 1) (oi := _) (v := ?_) rfl (by kernel_rfl) (by kernel_rfl) (by kernel_rfl) (fun _ _ _ h => h) (Or.inl ⟨by rfl, ?_⟩) (by assumption) ?_
    rotate_left
    · intro w hSw; obtain ⟨_, _, _, _⟩ := hSw; go_simp; (try with_reducible rfl)
    try change wpAnyH _ _ _ _ _ _ _ (Act.put _ (some 18) _) _
    try simp only [act_all]
    refine wpAnyH_take (i := 2) (oi := _) (v := ?_) rfl (by kernel_rfl) (by kernel_rfl) (by kernel_rfl) (fun _ _ _ h => h) (Or.inl ⟨by rfl, ?_⟩) (by assumption) ?_
    rotate_left
    · intro w hSw; obtain ⟨_, _, _, _⟩ := hSw; go_simp; (try with_reducible rfl)
    try change wpAnyH _ _ _ _ _ _ _ (Act.put _ (some 19) _) _
    try simp only [act_all]
    refine wpAnyH_take (i := 3) (oi := _) (v := ?_) rfl (by kernel_rfl) (by kernel_rfl) (by kernel_rfl) (fun _ _ _ h => h) (Or.inl ⟨by rfl, ?_⟩) (by assumption) ?_
    rotate_left
    · intro w hSw; obtain ⟨_, _, _, _⟩ := hSw; go_simp; (try with_reducible rfl)
    try change wpAnyH _ _ _ _ _ _ _ (Act.put _ (some 20) _) _
    try simp only [act_all]
    refine wpAnyH_take (i := 4) (oi := _) (v := ?_) rfl (by kernel_rfl) (by kernel_rfl) (by kernel_rfl) (fun _ _ _ h => h) (Or.inl ⟨by rfl, ?_⟩) (by assumption) ?_
    rotate_left
    · intro w hSw; obtain ⟨_, _, _, _⟩ := hSw; go_simp; (try with_reducible rfl)
    try change wpAnyH _ _ _ _ _ _ _ (Act.put _ (some 21) _) _
    try simp only [act_all]
    refine wpAnyH_ready (rs := [5]) (by kernel_rfl) (by simp) ?_
    refine AllReadyH.cons (o := _) rfl (fun K hK => ?_) AllReadyH.nil
    go_simp
    refine hK.out _ _ (by refine ⟨?_, ?_, ?_, ?_⟩ <;> go_cell) (fun hHeld => ?_)
    clear hK K
    try simp only [act_all]
    refine wpAnyH_ready (rs := [6]) (by kernel_rfl) (by simp) ?_
    refine AllReadyH.cons (o := _) rfl (fun K hK => ?_) AllReadyH.nil
    go_simp
    refine hK.out _ _ (by refine ⟨?_, ?_, ?_, ?_⟩ <;> go_cell) (fun hHeld => ?_)
    clear hK K
    try simp only [act_all]
    refine wpAnyH_take (i := 7) (oi := _) (v := ?_) rfl (by kernel_rfl) (by kernel_rfl) (by kernel_rfl) (fun _ _ _ h => h) (Or.inl ⟨by rfl, ?_⟩) (by assumption) ?_
    rotate_left
    · intro w hSw; obtain ⟨_, _, _, _⟩ := hSw; go_simp; (try with_reducible rfl)
    try change wpAnyH _ _ _ _ _ _ _ (Act.put _ (some 4) _) _
    try simp only [act_all]
    refine wpAnyH_done (by kernel_rfl) ?_ _
    have HDF := D4
    clear D4
    go_wp2_with fail
    refine bodyPost_ret (v := .tuple #[.agg #[.int .i64 p1, .int .i64 q1], .agg #[.int .i64 p2, .int .i64 q2], .int .i64 er]) (by simp [results, Try.results44, go_sem, *]) rfl ⟨by rw [HPP.out], by go_grown⟩
end Go.Proofs.Ytilclpldfoifkaa
