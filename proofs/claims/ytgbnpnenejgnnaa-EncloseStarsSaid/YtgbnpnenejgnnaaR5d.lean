import Derived.Test.YtgbnpnenejgnnaaR5m
import Derived.Test.YtgbnpnenejgnnaaR5p
import Derived.Test.YtgbnpnenejgnnaaR5s
import Derived.Deep.DeepCutAuto
namespace Encl
theorem powW_okS {e e' : Int} {x : Rc} {s : Sp} (h : powW e x = (s, e')) : okS s = true := rn_okS h (fun _ h => addS_ok h)
theorem mulW_okR {e e' : Int} {x y z : Rc} (h : mulW e x y = (z, e')) : okS z.re = true ∧ okS z.im = true := by
  unfold mulW at h
  simp only at h
  obtain ⟨h1, h2⟩ := Prod.mk.inj h
  rw [← h1]
  exact ⟨rn_okS (e' := _) rfl (fun _ h => subS_ok h), rn_okS (e' := _) rfl (fun _ h => addS_ok h)⟩
theorem mulW_err {e : Int} (h : ¬ e = 0) (x y : Rc) : (mulW e x y).2 = e := by
  unfold mulW
  simp only [rn_err h]
theorem rn_zero {e : Int} {o : Out Sp} {s : Sp} (h : rn e o = (s, 0)) : e = 0 := by
  apply Classical.byContradiction; intro hc
  rw [rn_err hc] at h
  exact hc (Prod.mk.inj h).2
theorem cjS_ok {c d : Int} (h : okS ⟨c, d⟩ = true) : okS ⟨-d, -c⟩ = true := by
  rw [okS_iff] at h ⊢
  simp only at h ⊢
  omega
end Encl
namespace Go.Proofs.Ytgbnpnenejgnnaa
open Go.RowKit Encl

set_option maxRecDepth 100000 in
set_option maxHeartbeats 8000000 in
theorem rDivW_any (a b c d s t u v e0 : Int) (g : Nat) (w : World) (h1 : okS ⟨a, b⟩ = true) (h2 : okS ⟨c, d⟩ = true) (h3 : okS ⟨s, t⟩ = true) (h4 : okS ⟨u, v⟩ = true) (hc : w.cell? ⟨g, 0, none⟩ = some (.int .i64 e0)) (hf : w.frozen? ⟨g, 0, none⟩ = false) :
    Calls Try.prog 77 #[.pointer (some ⟨g, 0, none⟩), .agg #[.int .i64 a, .int .i64 b, .int .i64 c, .int .i64 d], .agg #[.int .i64 s, .int .i64 t, .int .i64 u, .int .i64 v]] w fun e w' => e = retR (divW e0 ⟨⟨a, b⟩, ⟨c, d⟩⟩ ⟨⟨s, t⟩, ⟨u, v⟩⟩).1 ∧ Wk g (divW e0 ⟨⟨a, b⟩, ⟨c, d⟩⟩ ⟨⟨s, t⟩, ⟨u, v⟩⟩).2 w.heap.size w w' := by
  have hg : g < w.heap.size := World.block_lt_of_cell? w _ hc
  have H1 := Lib.hid h1
  have H2 := Lib.hid h2
  have H3 := Lib.hid h3
  have H4 := Lib.hid h4
  have H5 := Lib.hid (cjS_ok h4)
  have wu : wrap64 (-u) = -u := by rw [okS_iff] at h4; simp only at h4; simp only [wrap64]; omega
  have wv : wrap64 (-v) = -v := by rw [okS_iff] at h4; simp only at h4; simp only [wrap64]; omega
  clear h1 h2 h3 h4
  obtain ⟨SP, hsp⟩ : ∃ SP, (divW e0 ⟨⟨a, b⟩, ⟨c, d⟩⟩ ⟨⟨s, t⟩, ⟨u, v⟩⟩) = SP := ⟨_, rfl⟩
  have HSP := Lib.hid hsp
  rw [hsp]
  clear hsp
  go_enter Try.func77, Try.ntmps77
  go_wp2_with fail
  have hb0 : Below w.heap.size w (((w.alloc (Obj.cells #[.int .i64 a, .int .i64 b, .int .i64 c, .int .i64 d] 25)).alloc (Obj.cells #[.int .i64 s, .int .i64 t, .int .i64 u, .int .i64 v] 25)).alloc (Obj.cells #[.int .i64 0, .int .i64 0, .int .i64 0, .int .i64 0] 25)) := by go_grown
  have hc0 : (((w.alloc (Obj.cells #[.int .i64 a, .int .i64 b, .int .i64 c, .int .i64 d] 25)).alloc (Obj.cells #[.int .i64 s, .int .i64 t, .int .i64 u, .int .i64 v] 25)).alloc (Obj.cells #[.int .i64 0, .int .i64 0, .int .i64 0, .int .i64 0] 25)).cell? ⟨g, 0, none⟩ = some (.int .i64 e0) := (hb0.cell (p := ⟨g, 0, none⟩) hg).trans hc
  have hf0 : (((w.alloc (Obj.cells #[.int .i64 a, .int .i64 b, .int .i64 c, .int .i64 d] 25)).alloc (Obj.cells #[.int .i64 s, .int .i64 t, .int .i64 u, .int .i64 v] 25)).alloc (Obj.cells #[.int .i64 0, .int .i64 0, .int .i64 0, .int .i64 0] 25)).frozen? ⟨g, 0, none⟩ = false := (hb0.frozen (p := ⟨g, 0, none⟩) hg).trans hf
  have c00 : (((w.alloc (Obj.cells #[.int .i64 a, .int .i64 b, .int .i64 c, .int .i64 d] 25)).alloc (Obj.cells #[.int .i64 s, .int .i64 t, .int .i64 u, .int .i64 v] 25)).alloc (Obj.cells #[.int .i64 0, .int .i64 0, .int .i64 0, .int .i64 0] 25)).cell? ⟨w.heap.size, 0, none⟩ = some (.int .i64 a) := by go_cell
  have c01 : (((w.alloc (Obj.cells #[.int .i64 a, .int .i64 b, .int .i64 c, .int .i64 d] 25)).alloc (Obj.cells #[.int .i64 s, .int .i64 t, .int .i64 u, .int .i64 v] 25)).alloc (Obj.cells #[.int .i64 0, .int .i64 0, .int .i64 0, .int .i64 0] 25)).cell? ⟨w.heap.size, 1, none⟩ = some (.int .i64 b) := by go_cell
  have c02 : (((w.alloc (Obj.cells #[.int .i64 a, .int .i64 b, .int .i64 c, .int .i64 d] 25)).alloc (Obj.cells #[.int .i64 s, .int .i64 t, .int .i64 u, .int .i64 v] 25)).alloc (Obj.cells #[.int .i64 0, .int .i64 0, .int .i64 0, .int .i64 0] 25)).cell? ⟨w.heap.size, 2, none⟩ = some (.int .i64 c) := by go_cell
  have c03 : (((w.alloc (Obj.cells #[.int .i64 a, .int .i64 b, .int .i64 c, .int .i64 d] 25)).alloc (Obj.cells #[.int .i64 s, .int .i64 t, .int .i64 u, .int .i64 v] 25)).alloc (Obj.cells #[.int .i64 0, .int .i64 0, .int .i64 0, .int .i64 0] 25)).cell? ⟨w.heap.size, 3, none⟩ = some (.int .i64 d) := by go_cell
  have c10 : (((w.alloc (Obj.cells #[.int .i64 a, .int .i64 b, .int .i64 c, .int .i64 d] 25)).alloc (Obj.cells #[.int .i64 s, .int .i64 t, .int .i64 u, .int .i64 v] 25)).alloc (Obj.cells #[.int .i64 0, .int .i64 0, .int .i64 0, .int .i64 0] 25)).cell? ⟨w.heap.size + 1, 0, none⟩ = some (.int .i64 s) := by go_cell
  have c11 : (((w.alloc (Obj.cells #[.int .i64 a, .int .i64 b, .int .i64 c, .int .i64 d] 25)).alloc (Obj.cells #[.int .i64 s, .int .i64 t, .int .i64 u, .int .i64 v] 25)).alloc (Obj.cells #[.int .i64 0, .int .i64 0, .int .i64 0, .int .i64 0] 25)).cell? ⟨w.heap.size + 1, 1, none⟩ = some (.int .i64 t) := by go_cell
  have c12 : (((w.alloc (Obj.cells #[.int .i64 a, .int .i64 b, .int .i64 c, .int .i64 d] 25)).alloc (Obj.cells #[.int .i64 s, .int .i64 t, .int .i64 u, .int .i64 v] 25)).alloc (Obj.cells #[.int .i64 0, .int .i64 0, .int .i64 0, .int .i64 0] 25)).cell? ⟨w.heap.size + 1, 2, none⟩ = some (.int .i64 u) := by go_cell
  have c13 : (((w.alloc (Obj.cells #[.int .i64 a, .int .i64 b, .int .i64 c, .int .i64 d] 25)).alloc (Obj.cells #[.int .i64 s, .int .i64 t, .int .i64 u, .int .i64 v] 25)).alloc (Obj.cells #[.int .i64 0, .int .i64 0, .int .i64 0, .int .i64 0] 25)).cell? ⟨w.heap.size + 1, 3, none⟩ = some (.int .i64 v) := by go_cell
  have d0 : (((w.alloc (Obj.cells #[.int .i64 a, .int .i64 b, .int .i64 c, .int .i64 d] 25)).alloc (Obj.cells #[.int .i64 s, .int .i64 t, .int .i64 u, .int .i64 v] 25)).alloc (Obj.cells #[.int .i64 0, .int .i64 0, .int .i64 0, .int .i64 0] 25)).cell? ⟨w.heap.size + 1 + 1, 0, none⟩ = some (.int .i64 0) := by go_cell
  have f0 : (((w.alloc (Obj.cells #[.int .i64 a, .int .i64 b, .int .i64 c, .int .i64 d] 25)).alloc (Obj.cells #[.int .i64 s, .int .i64 t, .int .i64 u, .int .i64 v] 25)).alloc (Obj.cells #[.int .i64 0, .int .i64 0, .int .i64 0, .int .i64 0] 25)).frozen? ⟨w.heap.size + 1 + 1, 0, none⟩ = false := by go_cell
  have d1 : (((w.alloc (Obj.cells #[.int .i64 a, .int .i64 b, .int .i64 c, .int .i64 d] 25)).alloc (Obj.cells #[.int .i64 s, .int .i64 t, .int .i64 u, .int .i64 v] 25)).alloc (Obj.cells #[.int .i64 0, .int .i64 0, .int .i64 0, .int .i64 0] 25)).cell? ⟨w.heap.size + 1 + 1, 1, none⟩ = some (.int .i64 0) := by go_cell
  have f1 : (((w.alloc (Obj.cells #[.int .i64 a, .int .i64 b, .int .i64 c, .int .i64 d] 25)).alloc (Obj.cells #[.int .i64 s, .int .i64 t, .int .i64 u, .int .i64 v] 25)).alloc (Obj.cells #[.int .i64 0, .int .i64 0, .int .i64 0, .int .i64 0] 25)).frozen? ⟨w.heap.size + 1 + 1, 1, none⟩ = false := by go_cell
  have d2 : (((w.alloc (Obj.cells #[.int .i64 a, .int .i64 b, .int .i64 c, .int .i64 d] 25)).alloc (Obj.cells #[.int .i64 s, .int .i64 t, .int .i64 u, .int .i64 v] 25)).alloc (Obj.cells #[.int .i64 0, .int .i64 0, .int .i64 0, .int .i64 0] 25)).cell? ⟨w.heap.size + 1 + 1, 2, none⟩ = some (.int .i64 0) := by go_cell
  have f2 : (((w.alloc (Obj.cells #[.int .i64 a, .int .i64 b, .int .i64 c, .int .i64 d] 25)).alloc (Obj.cells #[.int .i64 s, .int .i64 t, .int .i64 u, .int .i64 v] 25)).alloc (Obj.cells #[.int .i64 0, .int .i64 0, .int .i64 0, .int .i64 0] 25)).frozen? ⟨w.heap.size + 1 + 1, 2, none⟩ = false := by go_cell
  have d3 : (((w.alloc (Obj.cells #[.int .i64 a, .int .i64 b, .int .i64 c, .int .i64 d] 25)).alloc (Obj.cells #[.int .i64 s, .int .i64 t, .int .i64 u, .int .i64 v] 25)).alloc (Obj.cells #[.int .i64 0, .int .i64 0, .int .i64 0, .int .i64 0] 25)).cell? ⟨w.heap.size + 1 + 1, 3, none⟩ = some (.int .i64 0) := by go_cell
  have f3 : (((w.alloc (Obj.cells #[.int .i64 a, .int .i64 b, .int .i64 c, .int .i64 d] 25)).alloc (Obj.cells #[.int .i64 s, .int .i64 t, .int .i64 u, .int .i64 v] 25)).alloc (Obj.cells #[.int .i64 0, .int .i64 0, .int .i64 0, .int .i64 0] 25)).frozen? ⟨w.heap.size + 1 + 1, 3, none⟩ = false := by go_cell
  have y2 : (((w.alloc (Obj.cells #[.int .i64 a, .int .i64 b, .int .i64 c, .int .i64 d] 25)).alloc (Obj.cells #[.int .i64 s, .int .i64 t, .int .i64 u, .int .i64 v] 25)).alloc (Obj.cells #[.int .i64 0, .int .i64 0, .int .i64 0, .int .i64 0] 25)).frozen? ⟨w.heap.size + 1, 2, none⟩ = false := by go_cell
  have y3 : (((w.alloc (Obj.cells #[.int .i64 a, .int .i64 b, .int .i64 c, .int .i64 d] 25)).alloc (Obj.cells #[.int .i64 s, .int .i64 t, .int .i64 u, .int .i64 v] 25)).alloc (Obj.cells #[.int .i64 0, .int .i64 0, .int .i64 0, .int .i64 0] 25)).frozen? ⟨w.heap.size + 1, 3, none⟩ = false := by go_cell
  have hsz : w.heap.size + 1 + 1 < (((w.alloc (Obj.cells #[.int .i64 a, .int .i64 b, .int .i64 c, .int .i64 d] 25)).alloc (Obj.cells #[.int .i64 s, .int .i64 t, .int .i64 u, .int .i64 v] 25)).alloc (Obj.cells #[.int .i64 0, .int .i64 0, .int .i64 0, .int .i64 0] 25)).heap.size := by simp
  generalize (((w.alloc (Obj.cells #[.int .i64 a, .int .i64 b, .int .i64 c, .int .i64 d] 25)).alloc (Obj.cells #[.int .i64 s, .int .i64 t, .int .i64 u, .int .i64 v] 25)).alloc (Obj.cells #[.int .i64 0, .int .i64 0, .int .i64 0, .int .i64 0] 25)) = W at *
  have hgW : g < W.heap.size := by omega
  have HW0 := Lib.hid (Wk.of_below hb0 hc0 hf0)
  have G0 : Hid (∀ (e : Int) w', Wk g e W.heap.size W w' → w'.cell? ⟨w.heap.size, 0, none⟩ = some (.int .i64 a) ∧ w'.cell? ⟨w.heap.size, 1, none⟩ = some (.int .i64 b) ∧ w'.cell? ⟨w.heap.size, 2, none⟩ = some (.int .i64 c) ∧ w'.cell? ⟨w.heap.size, 3, none⟩ = some (.int .i64 d) ∧ w'.cell? ⟨w.heap.size + 1, 0, none⟩ = some (.int .i64 s) ∧ w'.cell? ⟨w.heap.size + 1, 1, none⟩ = some (.int .i64 t) ∧ w'.cell? ⟨w.heap.size + 1, 2, none⟩ = some (.int .i64 u) ∧ w'.cell? ⟨w.heap.size + 1, 3, none⟩ = some (.int .i64 v) ∧ w'.frozen? ⟨w.heap.size + 1, 2, none⟩ = false ∧ w'.frozen? ⟨w.heap.size + 1, 3, none⟩ = false) := Lib.hid (fun e w' hb => by
    exact ⟨(hb.cells.1 _ 0 (by omega) (by omega)).trans c00, (hb.cells.1 _ 1 (by omega) (by omega)).trans c01, (hb.cells.1 _ 2 (by omega) (by omega)).trans c02, (hb.cells.1 _ 3 (by omega) (by omega)).trans c03, (hb.cells.1 _ 0 (by omega) (by omega)).trans c10, (hb.cells.1 _ 1 (by omega) (by omega)).trans c11, (hb.cells.1 _ 2 (by omega) (by omega)).trans c12, (hb.cells.1 _ 3 (by omega) (by omega)).trans c13, (hb.cells.2 _ 2 (by omega) (by omega)).trans y2, (hb.cells.2 _ 3 (by omega) (by omega)).trans y3⟩)
  have G1 : Hid (∀ (e : Int) w', Wk g e W.heap.size W w' → w'.cell? ⟨w.heap.size + 1 + 1, 0, none⟩ = some (.int .i64 0) ∧ w'.cell? ⟨w.heap.size + 1 + 1, 1, none⟩ = some (.int .i64 0) ∧ w'.cell? ⟨w.heap.size + 1 + 1, 2, none⟩ = some (.int .i64 0) ∧ w'.cell? ⟨w.heap.size + 1 + 1, 3, none⟩ = some (.int .i64 0) ∧ w'.frozen? ⟨w.heap.size + 1 + 1, 0, none⟩ = false ∧ w'.frozen? ⟨w.heap.size + 1 + 1, 1, none⟩ = false ∧ w'.frozen? ⟨w.heap.size + 1 + 1, 2, none⟩ = false ∧ w'.frozen? ⟨w.heap.size + 1 + 1, 3, none⟩ = false) := Lib.hid (fun e w' hb => by
    exact ⟨(hb.cells.1 _ 0 (by omega) (by omega)).trans d0, (hb.cells.1 _ 1 (by omega) (by omega)).trans d1, (hb.cells.1 _ 2 (by omega) (by omega)).trans d2, (hb.cells.1 _ 3 (by omega) (by omega)).trans d3, (hb.cells.2 _ 0 (by omega) (by omega)).trans f0, (hb.cells.2 _ 1 (by omega) (by omega)).trans f1, (hb.cells.2 _ 2 (by omega) (by omega)).trans f2, (hb.cells.2 _ 3 (by omega) (by omega)).trans f3⟩)
  clear hb0 hc hf c00 c01 c02 c03 c10 c11 c12 c13 d0 f0 d1 f1 d2 f2 d3 f3 y2 y3
  refine (rPowerW_any s t u v e0 g _ H3.out H4.out hc0 hf0).mono ?_
  rintro e w1 ⟨he, hb⟩
  obtain ⟨r, hr⟩ : ∃ r, (powW e0 ⟨⟨s, t⟩, ⟨u, v⟩⟩) = r := ⟨_, rfl⟩
  rw [hr] at he hb
  obtain ⟨⟨p, q⟩, e1⟩ := r
  obtain rfl : e = .returned (.agg #[.int .i64 p, .int .i64 q]) := he
  have HR1 := Lib.hid hr
  have HO := Lib.hid (powW_okS hr)
  clear hc0 hf0 hr
  obtain ⟨x0, x1, x2, x3, y0, y1, y2, y3, yf2, yf3⟩ := G0.out _ _ hb
  obtain ⟨d0, d1, d2, d3, f0, f1, f2, f3⟩ := G1.out _ _ hb
  have hk0 := hb.cell
  have hk1 := hb.free
  have s1 : w.heap.size + 1 + 1 < w1.heap.size := by have := hb.size; omega
  have s1a : w.heap.size < w1.heap.size := by omega
  have s1b : w.heap.size + 1 < w1.heap.size := by omega
  have hg1 : g < w1.heap.size := by omega
  have n0 : ¬ g = w.heap.size := by omega
  have n1 : ¬ g = w.heap.size + 1 := by omega
  have n2 : ¬ g = w.heap.size + 1 + 1 := by omega
  have n3 : ¬ g = w1.heap.size := by omega
  have n0' : ¬ w.heap.size = g := by omega
  have n1' : ¬ w.heap.size + 1 = g := by omega
  have n2' : ¬ w.heap.size + 1 + 1 = g := by omega
  have n3' : ¬ w1.heap.size = g := by omega
  have n4 : ¬ w1.heap.size = w.heap.size := by omega
  have n5 : ¬ w1.heap.size = w.heap.size + 1 := by omega
  have n6 : ¬ w1.heap.size = w.heap.size + 1 + 1 := by omega
  have DW1 := Lib.hid (HW0.out.trans (hb.mono HW0.out.size))
  clear hb G0 G1
  by_cases he : e1 = 0
  · subst he
    by_cases hp : p ≤ 0
    · have HZE : Hid (zerW 0 ⟨p, q⟩ = 51) := Lib.hid (by simp [zerW, hp])
      go_wp2_with fail
      have DB : Wk g 51 w.heap.size w (w1.setCell ⟨g, 0, none⟩ (.int .i64 51)) := DW1.out.set 51
      have DC : Wk g 51 w.heap.size w (((w1.setCell ⟨g, 0, none⟩ (.int .i64 51)).setCell ⟨w.heap.size + 1, 2, none⟩ (.int .i64 (-v))).setCell ⟨w.heap.size + 1, 3, none⟩ (.int .i64 (-u))) := DB.then (((Below.refl _ _).setCell (p := ⟨w.heap.size + 1, 2, none⟩) (by simp only; omega) (.int .i64 (-v))).setCell (p := ⟨w.heap.size + 1, 3, none⟩) (by simp only; omega) (.int .i64 (-u))) hg
      have DE : Wk g 51 w.heap.size w ((((w1.setCell ⟨g, 0, none⟩ (.int .i64 51)).setCell ⟨w.heap.size + 1, 2, none⟩ (.int .i64 (-v))).setCell ⟨w.heap.size + 1, 3, none⟩ (.int .i64 (-u))).alloc (Obj.cells #[.int .i64 p, .int .i64 q] 23)) := DC.then ((bal (Below.refl _ _) _).mono DC.size) hg
      have k0 : ((((w1.setCell ⟨g, 0, none⟩ (.int .i64 51)).setCell ⟨w.heap.size + 1, 2, none⟩ (.int .i64 (-v))).setCell ⟨w.heap.size + 1, 3, none⟩ (.int .i64 (-u))).alloc (Obj.cells #[.int .i64 p, .int .i64 q] 23)).cell? ⟨w1.heap.size, 0, none⟩ = some (.int .i64 p) := by go_cell
      have k1 : ((((w1.setCell ⟨g, 0, none⟩ (.int .i64 51)).setCell ⟨w.heap.size + 1, 2, none⟩ (.int .i64 (-v))).setCell ⟨w.heap.size + 1, 3, none⟩ (.int .i64 (-u))).alloc (Obj.cells #[.int .i64 p, .int .i64 q] 23)).cell? ⟨w1.heap.size, 1, none⟩ = some (.int .i64 q) := by go_cell
      have dd0 : ((((w1.setCell ⟨g, 0, none⟩ (.int .i64 51)).setCell ⟨w.heap.size + 1, 2, none⟩ (.int .i64 (-v))).setCell ⟨w.heap.size + 1, 3, none⟩ (.int .i64 (-u))).alloc (Obj.cells #[.int .i64 p, .int .i64 q] 23)).cell? ⟨w.heap.size + 1 + 1, 0, none⟩ = some (.int .i64 0) := by go_cell
      have dd1 : ((((w1.setCell ⟨g, 0, none⟩ (.int .i64 51)).setCell ⟨w.heap.size + 1, 2, none⟩ (.int .i64 (-v))).setCell ⟨w.heap.size + 1, 3, none⟩ (.int .i64 (-u))).alloc (Obj.cells #[.int .i64 p, .int .i64 q] 23)).cell? ⟨w.heap.size + 1 + 1, 1, none⟩ = some (.int .i64 0) := by go_cell
      have dd2 : ((((w1.setCell ⟨g, 0, none⟩ (.int .i64 51)).setCell ⟨w.heap.size + 1, 2, none⟩ (.int .i64 (-v))).setCell ⟨w.heap.size + 1, 3, none⟩ (.int .i64 (-u))).alloc (Obj.cells #[.int .i64 p, .int .i64 q] 23)).cell? ⟨w.heap.size + 1 + 1, 2, none⟩ = some (.int .i64 0) := by go_cell
      have dd3 : ((((w1.setCell ⟨g, 0, none⟩ (.int .i64 51)).setCell ⟨w.heap.size + 1, 2, none⟩ (.int .i64 (-v))).setCell ⟨w.heap.size + 1, 3, none⟩ (.int .i64 (-u))).alloc (Obj.cells #[.int .i64 p, .int .i64 q] 23)).cell? ⟨w.heap.size + 1 + 1, 3, none⟩ = some (.int .i64 0) := by go_cell
      have ff0 : ((((w1.setCell ⟨g, 0, none⟩ (.int .i64 51)).setCell ⟨w.heap.size + 1, 2, none⟩ (.int .i64 (-v))).setCell ⟨w.heap.size + 1, 3, none⟩ (.int .i64 (-u))).alloc (Obj.cells #[.int .i64 p, .int .i64 q] 23)).frozen? ⟨w.heap.size + 1 + 1, 0, none⟩ = false := by go_cell
      have ff1 : ((((w1.setCell ⟨g, 0, none⟩ (.int .i64 51)).setCell ⟨w.heap.size + 1, 2, none⟩ (.int .i64 (-v))).setCell ⟨w.heap.size + 1, 3, none⟩ (.int .i64 (-u))).alloc (Obj.cells #[.int .i64 p, .int .i64 q] 23)).frozen? ⟨w.heap.size + 1 + 1, 1, none⟩ = false := by go_cell
      have ff2 : ((((w1.setCell ⟨g, 0, none⟩ (.int .i64 51)).setCell ⟨w.heap.size + 1, 2, none⟩ (.int .i64 (-v))).setCell ⟨w.heap.size + 1, 3, none⟩ (.int .i64 (-u))).alloc (Obj.cells #[.int .i64 p, .int .i64 q] 23)).frozen? ⟨w.heap.size + 1 + 1, 2, none⟩ = false := by go_cell
      have ff3 : ((((w1.setCell ⟨g, 0, none⟩ (.int .i64 51)).setCell ⟨w.heap.size + 1, 2, none⟩ (.int .i64 (-v))).setCell ⟨w.heap.size + 1, 3, none⟩ (.int .i64 (-u))).alloc (Obj.cells #[.int .i64 p, .int .i64 q] 23)).frozen? ⟨w.heap.size + 1 + 1, 3, none⟩ = false := by go_cell
      have sE : w1.heap.size < ((((w1.setCell ⟨g, 0, none⟩ (.int .i64 51)).setCell ⟨w.heap.size + 1, 2, none⟩ (.int .i64 (-v))).setCell ⟨w.heap.size + 1, 3, none⟩ (.int .i64 (-u))).alloc (Obj.cells #[.int .i64 p, .int .i64 q] 23)).heap.size := by simp
      clear DB DC hk0 hk1 x0 x1 x2 x3 y0 y1 y2 y3 yf2 yf3 d0 d1 d2 d3 f0 f1 f2 f3
      generalize ((((w1.setCell ⟨g, 0, none⟩ (.int .i64 51)).setCell ⟨w.heap.size + 1, 2, none⟩ (.int .i64 (-v))).setCell ⟨w.heap.size + 1, 3, none⟩ (.int .i64 (-u))).alloc (Obj.cells #[.int .i64 p, .int .i64 q] 23)) = V at *
      generalize w1.heap.size = PB at *
      refine (rMulW_any a b c d s t (-v) (-u) 51 g _ H1.out H2.out H3.out H5.out DE.cell DE.free).mono ?_
      rintro e w3 ⟨he, hb⟩
      obtain ⟨r, hr⟩ : ∃ r, (mulW 51 ⟨⟨a, b⟩, ⟨c, d⟩⟩ ⟨⟨s, t⟩, ⟨-v, -u⟩⟩) = r := ⟨_, rfl⟩
      rw [hr] at he hb
      obtain ⟨⟨⟨z1, z2⟩, ⟨z3, z4⟩⟩, e3⟩ := r
      obtain rfl : e = .returned (.agg #[.int .i64 z1, .int .i64 z2, .int .i64 z3, .int .i64 z4]) := he
      have HR2 := Lib.hid hr
      have HZ := Lib.hid (mulW_okR hr)
      have HP : Hid (e3 = 0 → 0 < p) := Lib.hid (fun h => by have q := mulW_err (e := 51) (by decide) ⟨⟨a, b⟩, ⟨c, d⟩⟩ ⟨⟨s, t⟩, ⟨-v, -u⟩⟩; rw [hr] at q; simp only at q; omega)
      clear hr
      have s3 : PB < w3.heap.size := by have := hb.size; omega
      have s4 : w.heap.size + 1 + 1 < w3.heap.size := by have := hb.size; omega
      have D3 := DE.trans (hb.mono DE.size)
      have zk0 := (hb.cells.1 (PB) 0 (by omega) (by omega)).trans k0
      have zk1 := (hb.cells.1 (PB) 1 (by omega) (by omega)).trans k1
      have zdd0 := (hb.cells.1 (w.heap.size + 1 + 1) 0 (by omega) (by omega)).trans dd0
      have zdd1 := (hb.cells.1 (w.heap.size + 1 + 1) 1 (by omega) (by omega)).trans dd1
      have zdd2 := (hb.cells.1 (w.heap.size + 1 + 1) 2 (by omega) (by omega)).trans dd2
      have zdd3 := (hb.cells.1 (w.heap.size + 1 + 1) 3 (by omega) (by omega)).trans dd3
      have zff0 := (hb.cells.2 (w.heap.size + 1 + 1) 0 (by omega) (by omega)).trans ff0
      have zff1 := (hb.cells.2 (w.heap.size + 1 + 1) 1 (by omega) (by omega)).trans ff1
      have zff2 := (hb.cells.2 (w.heap.size + 1 + 1) 2 (by omega) (by omega)).trans ff2
      have zff3 := (hb.cells.2 (w.heap.size + 1 + 1) 3 (by omega) (by omega)).trans ff3
      clear hb DE k0 k1 dd0 dd1 dd2 dd3 ff0 ff1 ff2 ff3
      go_upto_region 6 with fail
      have b3 : Below w3.heap.size w3 (w3.alloc (Obj.cells #[.int .i64 z1, .int .i64 z2, .int .i64 z3, .int .i64 z4] 25)) := bal (Below.refl _ _) _
      have D4 : Wk g e3 w.heap.size w (w3.alloc (Obj.cells #[.int .i64 z1, .int .i64 z2, .int .i64 z3, .int .i64 z4] 25)) := D3.then (b3.mono D3.size) hg
      have qk0 := (b3.cell (p := ⟨PB, 0, none⟩) (by simp only; omega)).trans zk0
      have qk1 := (b3.cell (p := ⟨PB, 1, none⟩) (by simp only; omega)).trans zk1
      have qdd0 := (b3.cell (p := ⟨w.heap.size + 1 + 1, 0, none⟩) (by simp only; omega)).trans zdd0
      have qdd1 := (b3.cell (p := ⟨w.heap.size + 1 + 1, 1, none⟩) (by simp only; omega)).trans zdd1
      have qdd2 := (b3.cell (p := ⟨w.heap.size + 1 + 1, 2, none⟩) (by simp only; omega)).trans zdd2
      have qdd3 := (b3.cell (p := ⟨w.heap.size + 1 + 1, 3, none⟩) (by simp only; omega)).trans zdd3
      have qff0 := (b3.frozen (p := ⟨w.heap.size + 1 + 1, 0, none⟩) (by simp only; omega)).trans zff0
      have qff1 := (b3.frozen (p := ⟨w.heap.size + 1 + 1, 1, none⟩) (by simp only; omega)).trans zff1
      have qff2 := (b3.frozen (p := ⟨w.heap.size + 1 + 1, 2, none⟩) (by simp only; omega)).trans zff2
      have qff3 := (b3.frozen (p := ⟨w.heap.size + 1 + 1, 3, none⟩) (by simp only; omega)).trans zff3
      have zc0 : (w3.alloc (Obj.cells #[.int .i64 z1, .int .i64 z2, .int .i64 z3, .int .i64 z4] 25)).cell? ⟨w3.heap.size, 0, none⟩ = some (.int .i64 z1) := by go_cell
      have zc1 : (w3.alloc (Obj.cells #[.int .i64 z1, .int .i64 z2, .int .i64 z3, .int .i64 z4] 25)).cell? ⟨w3.heap.size, 1, none⟩ = some (.int .i64 z2) := by go_cell
      have zc2 : (w3.alloc (Obj.cells #[.int .i64 z1, .int .i64 z2, .int .i64 z3, .int .i64 z4] 25)).cell? ⟨w3.heap.size, 2, none⟩ = some (.int .i64 z3) := by go_cell
      have zc3 : (w3.alloc (Obj.cells #[.int .i64 z1, .int .i64 z2, .int .i64 z3, .int .i64 z4] 25)).cell? ⟨w3.heap.size, 3, none⟩ = some (.int .i64 z4) := by go_cell
      have sU : w3.heap.size < (w3.alloc (Obj.cells #[.int .i64 z1, .int .i64 z2, .int .i64 z3, .int .i64 z4] 25)).heap.size := by simp
      clear b3 D3 zk0 zk1 zdd0 zdd1 zdd2 zdd3 zff0 zff1 zff2 zff3
      generalize (w3.alloc (Obj.cells #[.int .i64 z1, .int .i64 z2, .int .i64 z3, .int .i64 z4] 25)) = U at *
      generalize w3.heap.size = ZB at *
      have hgU : g < U.heap.size := by omega
      have HU := Lib.hid D4
      have HDU : Wk g e3 U.heap.size U U := ⟨rfl, rfl, rfl, Nat.le_refl _, fun _ _ _ => rfl, D4.cell, D4.free⟩
      have J0 : Hid (∀ (e : Int) w', Wk g e U.heap.size U w' → w'.cell? ⟨ZB, 0, none⟩ = some (.int .i64 z1) ∧ w'.cell? ⟨ZB, 1, none⟩ = some (.int .i64 z2) ∧ w'.cell? ⟨ZB, 2, none⟩ = some (.int .i64 z3) ∧ w'.cell? ⟨ZB, 3, none⟩ = some (.int .i64 z4) ∧ w'.cell? ⟨PB, 0, none⟩ = some (.int .i64 p) ∧ w'.cell? ⟨PB, 1, none⟩ = some (.int .i64 q)) := Lib.hid (fun e w' hb => by
        exact ⟨(hb.cells.1 _ 0 (by omega) (by omega)).trans zc0, (hb.cells.1 _ 1 (by omega) (by omega)).trans zc1, (hb.cells.1 _ 2 (by omega) (by omega)).trans zc2, (hb.cells.1 _ 3 (by omega) (by omega)).trans zc3, (hb.cells.1 _ 0 (by omega) (by omega)).trans qk0, (hb.cells.1 _ 1 (by omega) (by omega)).trans qk1⟩)
      have J1 : Hid (∀ (e : Int) w', Wk g e U.heap.size U w' → w'.cell? ⟨w.heap.size + 1 + 1, 0, none⟩ = some (.int .i64 0) ∧ w'.cell? ⟨w.heap.size + 1 + 1, 1, none⟩ = some (.int .i64 0) ∧ w'.cell? ⟨w.heap.size + 1 + 1, 2, none⟩ = some (.int .i64 0) ∧ w'.cell? ⟨w.heap.size + 1 + 1, 3, none⟩ = some (.int .i64 0) ∧ w'.frozen? ⟨w.heap.size + 1 + 1, 0, none⟩ = false ∧ w'.frozen? ⟨w.heap.size + 1 + 1, 1, none⟩ = false ∧ w'.frozen? ⟨w.heap.size + 1 + 1, 2, none⟩ = false ∧ w'.frozen? ⟨w.heap.size + 1 + 1, 3, none⟩ = false) := Lib.hid (fun e w' hb => by
        exact ⟨(hb.cells.1 _ 0 (by omega) (by omega)).trans qdd0, (hb.cells.1 _ 1 (by omega) (by omega)).trans qdd1, (hb.cells.1 _ 2 (by omega) (by omega)).trans qdd2, (hb.cells.1 _ 3 (by omega) (by omega)).trans qdd3, (hb.cells.2 _ 0 (by omega) (by omega)).trans qff0, (hb.cells.2 _ 1 (by omega) (by omega)).trans qff1, (hb.cells.2 _ 2 (by omega) (by omega)).trans qff2, (hb.cells.2 _ 3 (by omega) (by omega)).trans qff3⟩)
      clear D4 zc0 zc1 zc2 zc3 qk0 qk1 qdd0 qdd1 qdd2 qdd3 qff0 qff1 qff2 qff3
      have HD51 : Wk g e3 U.heap.size U U.drew := HDU.then ((Below.refl _ _).drew.mono HDU.size) hgU
      refine wp_region_held_drew (S := fun w' => w'.cell? ⟨ZB, 0, none⟩ = some (.int .i64 z1) ∧ w'.cell? ⟨ZB, 1, none⟩ = some (.int .i64 z2) ∧ w'.cell? ⟨ZB, 2, none⟩ = some (.int .i64 z3) ∧ w'.cell? ⟨ZB, 3, none⟩ = some (.int .i64 z4) ∧ w'.cell? ⟨PB, 0, none⟩ = some (.int .i64 p) ∧ w'.cell? ⟨PB, 1, none⟩ = some (.int .i64 q)) (by kernel_rfl) (J0.out _ _ HD51) (fun hHeld => ?_)
      refine wpAnyH_take (i := 0) (oi := _) (v := ?_) rfl (by kernel_rfl) (by kernel_rfl) (by kernel_rfl) (fun _ _ _ h => h) (Or.inl ⟨by rfl, ?_⟩) (by assumption) ?_
      rotate_left
      · intro w hSw; obtain ⟨_, _, _, _, _, _⟩ := hSw; go_simp; (try with_reducible rfl)
      try change wpAnyH _ _ _ _ _ _ _ (Act.put _ (some 39) _) _
      try simp only [act_all]
      refine wpAnyH_take (i := 1) (oi := _) (v := ?_) rfl (by kernel_rfl) (by kernel_rfl) (by kernel_rfl) (fun _ _ _ h => h) (Or.inl ⟨by rfl, ?_⟩) (by assumption) ?_
      rotate_left
      · intro w hSw; obtain ⟨_, _, _, _, _, _⟩ := hSw; go_simp; (try with_reducible rfl)
      try change wpAnyH _ _ _ _ _ _ _ (Act.put _ (some 40) _) _
      try simp only [act_all]
      refine wpAnyH_take (i := 2) (oi := _) (v := ?_) rfl (by kernel_rfl) (by kernel_rfl) (by kernel_rfl) (fun _ _ _ h => h) (Or.inl ⟨by rfl, ?_⟩) (by assumption) ?_
      rotate_left
      · intro w hSw; obtain ⟨_, _, _, _, _, _⟩ := hSw; go_simp; (try with_reducible rfl)
      try change wpAnyH _ _ _ _ _ _ _ (Act.put _ (some 41) _) _
      try simp only [act_all]
      refine wpAnyH_take (i := 3) (oi := _) (v := ?_) rfl (by kernel_rfl) (by kernel_rfl) (by kernel_rfl) (fun _ _ _ h => h) (Or.inl ⟨by rfl, ?_⟩) (by assumption) ?_
      rotate_left
      · intro w hSw; obtain ⟨_, _, _, _, _, _⟩ := hSw; go_simp; (try with_reducible rfl)
      try change wpAnyH _ _ _ _ _ _ _ (Act.put _ (some 42) _) _
      try simp only [act_all]
      refine wpAnyH_take (i := 5) (oi := _) (v := ?_) rfl (by kernel_rfl) (by kernel_rfl) (by kernel_rfl) (fun _ _ _ h => h) (Or.inl ⟨by rfl, ?_⟩) (by assumption) ?_
      rotate_left
      · intro w hSw; obtain ⟨_, _, _, _, _, _⟩ := hSw; go_simp; (try with_reducible rfl)
      try change wpAnyH _ _ _ _ _ _ _ (Act.put _ (some 44) _) _
      try simp only [act_all]
      refine wpAnyH_take (i := 6) (oi := _) (v := ?_) rfl (by kernel_rfl) (by kernel_rfl) (by kernel_rfl) (fun _ _ _ h => h) (Or.inl ⟨by rfl, ?_⟩) (by assumption) ?_
      rotate_left
      · intro w hSw; obtain ⟨_, _, _, _, _, _⟩ := hSw; go_simp; (try with_reducible rfl)
      try change wpAnyH _ _ _ _ _ _ _ (Act.put _ (some 45) _) _
      try simp only [act_all]
      refine wpAnyH_take (i := 7) (oi := _) (v := ?_) rfl (by kernel_rfl) (by kernel_rfl) (by kernel_rfl) (fun _ _ _ h => h) (Or.inl ⟨by rfl, ?_⟩) (by assumption) ?_
      rotate_left
      · intro w hSw; obtain ⟨_, _, _, _, _, _⟩ := hSw; go_simp; (try with_reducible rfl)
      try change wpAnyH _ _ _ _ _ _ _ (Act.put _ (some 46) _) _
      try simp only [act_all]
      refine wpAnyH_take (i := 8) (oi := _) (v := ?_) rfl (by kernel_rfl) (by kernel_rfl) (by kernel_rfl) (fun _ _ _ h => h) (Or.inl ⟨by rfl, ?_⟩) (by assumption) ?_
      rotate_left
      · intro w hSw; obtain ⟨_, _, _, _, _, _⟩ := hSw; go_simp; (try with_reducible rfl)
      try change wpAnyH _ _ _ _ _ _ _ (Act.put _ (some 47) _) _
      try simp only [act_all]
      refine wpAnyH_ready (rs := [4]) (by kernel_rfl) (by simp) ?_
      refine AllReadyH.cons (o := _) rfl (fun K hK => ?_) AllReadyH.nil
      go_simp
      refine (rOver_any z1 z2 p q e3 g _ HZ.out.1 HO.out HP.out HD51.cell HD51.free).mono ?_
      rintro e w52_ ⟨he, hb⟩
      obtain ⟨r, hr⟩ : ∃ r, (rn e3 (divS ⟨z1, z2⟩ ⟨p, q⟩)) = r := ⟨_, rfl⟩
      rw [hr] at he hb
      obtain ⟨⟨p1, q1⟩, e4⟩ := r
      have HR52 := Lib.hid hr
      have HD52 : Wk g e4 U.heap.size U w52_ := HD51.trans (hb.mono HD51.size)
      obtain rfl : e = .returned (.agg #[.int .i64 p1, .int .i64 q1]) := he
      have hz52 := HD52.size
      have hq52 := hb.size
      (try simp at hq52)
      clear hb hHeld hr
      refine hK.out _ _ (J0.out _ _ HD52) (fun hHeld => ?_)
      clear hK K
      try simp only [act_all]
      refine wpAnyH_ready (rs := [9]) (by kernel_rfl) (by simp) ?_
      refine AllReadyH.cons (o := _) rfl (fun K hK => ?_) AllReadyH.nil
      go_simp
      refine (rOver_any z3 z4 p q e4 g _ HZ.out.2 HO.out (fun h => by subst h; exact HP.out (rn_zero HR52.out)) HD52.cell HD52.free).mono ?_
      rintro e w53_ ⟨he, hb⟩
      obtain ⟨r, hr⟩ : ∃ r, (rn e4 (divS ⟨z3, z4⟩ ⟨p, q⟩)) = r := ⟨_, rfl⟩
      rw [hr] at he hb
      obtain ⟨⟨p2, q2⟩, e5⟩ := r
      have HR53 := Lib.hid hr
      have HD53 : Wk g e5 U.heap.size U w53_ := HD52.trans (hb.mono HD52.size)
      obtain rfl : e = .returned (.agg #[.int .i64 p2, .int .i64 q2]) := he
      have hz53 := HD53.size
      have hq53 := hb.size
      (try simp at hq53)
      clear hb hHeld hr
      refine hK.out _ _ (J0.out _ _ HD53) (fun hHeld => ?_)
      clear hK K
      try simp only [act_all]
      refine wpAnyH_take (i := 10) (oi := _) (v := ?_) rfl (by kernel_rfl) (by kernel_rfl) (by kernel_rfl) (fun _ _ _ h => h) (Or.inl ⟨by rfl, ?_⟩) (by assumption) ?_
      rotate_left
      · intro w hSw; obtain ⟨_, _, _, _, _, _⟩ := hSw; go_simp; (try with_reducible rfl)
      try change wpAnyH _ _ _ _ _ _ _ (Act.put _ (some 49) _) _
      try simp only [act_all]
      refine wpAnyH_ready (rs := [11]) (by kernel_rfl) (by simp) ?_
      refine AllReadyH.cons (o := _) rfl (fun K hK => ?_) AllReadyH.nil
      obtain ⟨_, _, _, _, _, _⟩ := J0.out _ _ HD53
      obtain ⟨_, _, _, _, _, _, _, _⟩ := J1.out _ _ HD53
      have nb : w.heap.size + 1 + 1 < w53_.heap.size := by omega
      have nz : ¬ ZB = w.heap.size + 1 + 1 := by omega
      have np : ¬ PB = w.heap.size + 1 + 1 := by omega
      go_simp
      refine hK.out _ _ (by refine ⟨?_, ?_, ?_, ?_, ?_, ?_⟩ <;> go_cell) (fun hHeld => ?_)
      clear hK K
      try simp only [act_all]
      refine wpAnyH_done (by kernel_rfl) ?_ _
      have HN : Hid (SP = (⟨⟨p1, q1⟩, ⟨p2, q2⟩⟩, e5)) := Lib.hid (by rw [← HSP.out]; simp only [divW, HR1.out, HZE.out, cjR, negS, HR2.out, HR52.out, HR53.out]; (try rfl))
      have HWF := Lib.hid (HU.out.trans (HD53.mono HU.out.size))
      have DL : Below w.heap.size w53_ w53_ := Below.refl _ _
      go_wp2_with fail
      refine bodyPost_ret (v := .agg #[.int .i64 p1, .int .i64 q1, .int .i64 p2, .int .i64 q2]) (by simp [results, Try.results77, go_sem, *]) rfl ⟨?_, ?_⟩
      · rw [HN.out]; rfl
      · rw [HN.out]; exact HWF.out.then (by go_grown) hg
    · have HZE : Hid (zerW 0 ⟨p, q⟩ = 0) := Lib.hid (by simp [zerW, hp])
      go_wp2_with fail
      have DB := DW1.out
      have DC : Wk g 0 w.heap.size w ((w1.setCell ⟨w.heap.size + 1, 2, none⟩ (.int .i64 (-v))).setCell ⟨w.heap.size + 1, 3, none⟩ (.int .i64 (-u))) := DB.then (((Below.refl _ _).setCell (p := ⟨w.heap.size + 1, 2, none⟩) (by simp only; omega) (.int .i64 (-v))).setCell (p := ⟨w.heap.size + 1, 3, none⟩) (by simp only; omega) (.int .i64 (-u))) hg
      have DE : Wk g 0 w.heap.size w (((w1.setCell ⟨w.heap.size + 1, 2, none⟩ (.int .i64 (-v))).setCell ⟨w.heap.size + 1, 3, none⟩ (.int .i64 (-u))).alloc (Obj.cells #[.int .i64 p, .int .i64 q] 23)) := DC.then ((bal (Below.refl _ _) _).mono DC.size) hg
      have k0 : (((w1.setCell ⟨w.heap.size + 1, 2, none⟩ (.int .i64 (-v))).setCell ⟨w.heap.size + 1, 3, none⟩ (.int .i64 (-u))).alloc (Obj.cells #[.int .i64 p, .int .i64 q] 23)).cell? ⟨w1.heap.size, 0, none⟩ = some (.int .i64 p) := by go_cell
      have k1 : (((w1.setCell ⟨w.heap.size + 1, 2, none⟩ (.int .i64 (-v))).setCell ⟨w.heap.size + 1, 3, none⟩ (.int .i64 (-u))).alloc (Obj.cells #[.int .i64 p, .int .i64 q] 23)).cell? ⟨w1.heap.size, 1, none⟩ = some (.int .i64 q) := by go_cell
      have dd0 : (((w1.setCell ⟨w.heap.size + 1, 2, none⟩ (.int .i64 (-v))).setCell ⟨w.heap.size + 1, 3, none⟩ (.int .i64 (-u))).alloc (Obj.cells #[.int .i64 p, .int .i64 q] 23)).cell? ⟨w.heap.size + 1 + 1, 0, none⟩ = some (.int .i64 0) := by go_cell
      have dd1 : (((w1.setCell ⟨w.heap.size + 1, 2, none⟩ (.int .i64 (-v))).setCell ⟨w.heap.size + 1, 3, none⟩ (.int .i64 (-u))).alloc (Obj.cells #[.int .i64 p, .int .i64 q] 23)).cell? ⟨w.heap.size + 1 + 1, 1, none⟩ = some (.int .i64 0) := by go_cell
      have dd2 : (((w1.setCell ⟨w.heap.size + 1, 2, none⟩ (.int .i64 (-v))).setCell ⟨w.heap.size + 1, 3, none⟩ (.int .i64 (-u))).alloc (Obj.cells #[.int .i64 p, .int .i64 q] 23)).cell? ⟨w.heap.size + 1 + 1, 2, none⟩ = some (.int .i64 0) := by go_cell
      have dd3 : (((w1.setCell ⟨w.heap.size + 1, 2, none⟩ (.int .i64 (-v))).setCell ⟨w.heap.size + 1, 3, none⟩ (.int .i64 (-u))).alloc (Obj.cells #[.int .i64 p, .int .i64 q] 23)).cell? ⟨w.heap.size + 1 + 1, 3, none⟩ = some (.int .i64 0) := by go_cell
      have ff0 : (((w1.setCell ⟨w.heap.size + 1, 2, none⟩ (.int .i64 (-v))).setCell ⟨w.heap.size + 1, 3, none⟩ (.int .i64 (-u))).alloc (Obj.cells #[.int .i64 p, .int .i64 q] 23)).frozen? ⟨w.heap.size + 1 + 1, 0, none⟩ = false := by go_cell
      have ff1 : (((w1.setCell ⟨w.heap.size + 1, 2, none⟩ (.int .i64 (-v))).setCell ⟨w.heap.size + 1, 3, none⟩ (.int .i64 (-u))).alloc (Obj.cells #[.int .i64 p, .int .i64 q] 23)).frozen? ⟨w.heap.size + 1 + 1, 1, none⟩ = false := by go_cell
      have ff2 : (((w1.setCell ⟨w.heap.size + 1, 2, none⟩ (.int .i64 (-v))).setCell ⟨w.heap.size + 1, 3, none⟩ (.int .i64 (-u))).alloc (Obj.cells #[.int .i64 p, .int .i64 q] 23)).frozen? ⟨w.heap.size + 1 + 1, 2, none⟩ = false := by go_cell
      have ff3 : (((w1.setCell ⟨w.heap.size + 1, 2, none⟩ (.int .i64 (-v))).setCell ⟨w.heap.size + 1, 3, none⟩ (.int .i64 (-u))).alloc (Obj.cells #[.int .i64 p, .int .i64 q] 23)).frozen? ⟨w.heap.size + 1 + 1, 3, none⟩ = false := by go_cell
      have sE : w1.heap.size < (((w1.setCell ⟨w.heap.size + 1, 2, none⟩ (.int .i64 (-v))).setCell ⟨w.heap.size + 1, 3, none⟩ (.int .i64 (-u))).alloc (Obj.cells #[.int .i64 p, .int .i64 q] 23)).heap.size := by simp
      clear DB DC hk0 hk1 x0 x1 x2 x3 y0 y1 y2 y3 yf2 yf3 d0 d1 d2 d3 f0 f1 f2 f3
      generalize (((w1.setCell ⟨w.heap.size + 1, 2, none⟩ (.int .i64 (-v))).setCell ⟨w.heap.size + 1, 3, none⟩ (.int .i64 (-u))).alloc (Obj.cells #[.int .i64 p, .int .i64 q] 23)) = V at *
      generalize w1.heap.size = PB at *
      refine (rMulW_any a b c d s t (-v) (-u) 0 g _ H1.out H2.out H3.out H5.out DE.cell DE.free).mono ?_
      rintro e w3 ⟨he, hb⟩
      obtain ⟨r, hr⟩ : ∃ r, (mulW 0 ⟨⟨a, b⟩, ⟨c, d⟩⟩ ⟨⟨s, t⟩, ⟨-v, -u⟩⟩) = r := ⟨_, rfl⟩
      rw [hr] at he hb
      obtain ⟨⟨⟨z1, z2⟩, ⟨z3, z4⟩⟩, e3⟩ := r
      obtain rfl : e = .returned (.agg #[.int .i64 z1, .int .i64 z2, .int .i64 z3, .int .i64 z4]) := he
      have HR2 := Lib.hid hr
      have HZ := Lib.hid (mulW_okR hr)
      have HP : Hid (e3 = 0 → 0 < p) := Lib.hid (fun _ => by omega)
      clear hr
      have s3 : PB < w3.heap.size := by have := hb.size; omega
      have s4 : w.heap.size + 1 + 1 < w3.heap.size := by have := hb.size; omega
      have D3 := DE.trans (hb.mono DE.size)
      have zk0 := (hb.cells.1 (PB) 0 (by omega) (by omega)).trans k0
      have zk1 := (hb.cells.1 (PB) 1 (by omega) (by omega)).trans k1
      have zdd0 := (hb.cells.1 (w.heap.size + 1 + 1) 0 (by omega) (by omega)).trans dd0
      have zdd1 := (hb.cells.1 (w.heap.size + 1 + 1) 1 (by omega) (by omega)).trans dd1
      have zdd2 := (hb.cells.1 (w.heap.size + 1 + 1) 2 (by omega) (by omega)).trans dd2
      have zdd3 := (hb.cells.1 (w.heap.size + 1 + 1) 3 (by omega) (by omega)).trans dd3
      have zff0 := (hb.cells.2 (w.heap.size + 1 + 1) 0 (by omega) (by omega)).trans ff0
      have zff1 := (hb.cells.2 (w.heap.size + 1 + 1) 1 (by omega) (by omega)).trans ff1
      have zff2 := (hb.cells.2 (w.heap.size + 1 + 1) 2 (by omega) (by omega)).trans ff2
      have zff3 := (hb.cells.2 (w.heap.size + 1 + 1) 3 (by omega) (by omega)).trans ff3
      clear hb DE k0 k1 dd0 dd1 dd2 dd3 ff0 ff1 ff2 ff3
      go_upto_region 6 with fail
      have b3 : Below w3.heap.size w3 (w3.alloc (Obj.cells #[.int .i64 z1, .int .i64 z2, .int .i64 z3, .int .i64 z4] 25)) := bal (Below.refl _ _) _
      have D4 : Wk g e3 w.heap.size w (w3.alloc (Obj.cells #[.int .i64 z1, .int .i64 z2, .int .i64 z3, .int .i64 z4] 25)) := D3.then (b3.mono D3.size) hg
      have qk0 := (b3.cell (p := ⟨PB, 0, none⟩) (by simp only; omega)).trans zk0
      have qk1 := (b3.cell (p := ⟨PB, 1, none⟩) (by simp only; omega)).trans zk1
      have qdd0 := (b3.cell (p := ⟨w.heap.size + 1 + 1, 0, none⟩) (by simp only; omega)).trans zdd0
      have qdd1 := (b3.cell (p := ⟨w.heap.size + 1 + 1, 1, none⟩) (by simp only; omega)).trans zdd1
      have qdd2 := (b3.cell (p := ⟨w.heap.size + 1 + 1, 2, none⟩) (by simp only; omega)).trans zdd2
      have qdd3 := (b3.cell (p := ⟨w.heap.size + 1 + 1, 3, none⟩) (by simp only; omega)).trans zdd3
      have qff0 := (b3.frozen (p := ⟨w.heap.size + 1 + 1, 0, none⟩) (by simp only; omega)).trans zff0
      have qff1 := (b3.frozen (p := ⟨w.heap.size + 1 + 1, 1, none⟩) (by simp only; omega)).trans zff1
      have qff2 := (b3.frozen (p := ⟨w.heap.size + 1 + 1, 2, none⟩) (by simp only; omega)).trans zff2
      have qff3 := (b3.frozen (p := ⟨w.heap.size + 1 + 1, 3, none⟩) (by simp only; omega)).trans zff3
      have zc0 : (w3.alloc (Obj.cells #[.int .i64 z1, .int .i64 z2, .int .i64 z3, .int .i64 z4] 25)).cell? ⟨w3.heap.size, 0, none⟩ = some (.int .i64 z1) := by go_cell
      have zc1 : (w3.alloc (Obj.cells #[.int .i64 z1, .int .i64 z2, .int .i64 z3, .int .i64 z4] 25)).cell? ⟨w3.heap.size, 1, none⟩ = some (.int .i64 z2) := by go_cell
      have zc2 : (w3.alloc (Obj.cells #[.int .i64 z1, .int .i64 z2, .int .i64 z3, .int .i64 z4] 25)).cell? ⟨w3.heap.size, 2, none⟩ = some (.int .i64 z3) := by go_cell
      have zc3 : (w3.alloc (Obj.cells #[.int .i64 z1, .int .i64 z2, .int .i64 z3, .int .i64 z4] 25)).cell? ⟨w3.heap.size, 3, none⟩ = some (.int .i64 z4) := by go_cell
      have sU : w3.heap.size < (w3.alloc (Obj.cells #[.int .i64 z1, .int .i64 z2, .int .i64 z3, .int .i64 z4] 25)).heap.size := by simp
      clear b3 D3 zk0 zk1 zdd0 zdd1 zdd2 zdd3 zff0 zff1 zff2 zff3
      generalize (w3.alloc (Obj.cells #[.int .i64 z1, .int .i64 z2, .int .i64 z3, .int .i64 z4] 25)) = U at *
      generalize w3.heap.size = ZB at *
      have hgU : g < U.heap.size := by omega
      have HU := Lib.hid D4
      have HDU : Wk g e3 U.heap.size U U := ⟨rfl, rfl, rfl, Nat.le_refl _, fun _ _ _ => rfl, D4.cell, D4.free⟩
      have J0 : Hid (∀ (e : Int) w', Wk g e U.heap.size U w' → w'.cell? ⟨ZB, 0, none⟩ = some (.int .i64 z1) ∧ w'.cell? ⟨ZB, 1, none⟩ = some (.int .i64 z2) ∧ w'.cell? ⟨ZB, 2, none⟩ = some (.int .i64 z3) ∧ w'.cell? ⟨ZB, 3, none⟩ = some (.int .i64 z4) ∧ w'.cell? ⟨PB, 0, none⟩ = some (.int .i64 p) ∧ w'.cell? ⟨PB, 1, none⟩ = some (.int .i64 q)) := Lib.hid (fun e w' hb => by
        exact ⟨(hb.cells.1 _ 0 (by omega) (by omega)).trans zc0, (hb.cells.1 _ 1 (by omega) (by omega)).trans zc1, (hb.cells.1 _ 2 (by omega) (by omega)).trans zc2, (hb.cells.1 _ 3 (by omega) (by omega)).trans zc3, (hb.cells.1 _ 0 (by omega) (by omega)).trans qk0, (hb.cells.1 _ 1 (by omega) (by omega)).trans qk1⟩)
      have J1 : Hid (∀ (e : Int) w', Wk g e U.heap.size U w' → w'.cell? ⟨w.heap.size + 1 + 1, 0, none⟩ = some (.int .i64 0) ∧ w'.cell? ⟨w.heap.size + 1 + 1, 1, none⟩ = some (.int .i64 0) ∧ w'.cell? ⟨w.heap.size + 1 + 1, 2, none⟩ = some (.int .i64 0) ∧ w'.cell? ⟨w.heap.size + 1 + 1, 3, none⟩ = some (.int .i64 0) ∧ w'.frozen? ⟨w.heap.size + 1 + 1, 0, none⟩ = false ∧ w'.frozen? ⟨w.heap.size + 1 + 1, 1, none⟩ = false ∧ w'.frozen? ⟨w.heap.size + 1 + 1, 2, none⟩ = false ∧ w'.frozen? ⟨w.heap.size + 1 + 1, 3, none⟩ = false) := Lib.hid (fun e w' hb => by
        exact ⟨(hb.cells.1 _ 0 (by omega) (by omega)).trans qdd0, (hb.cells.1 _ 1 (by omega) (by omega)).trans qdd1, (hb.cells.1 _ 2 (by omega) (by omega)).trans qdd2, (hb.cells.1 _ 3 (by omega) (by omega)).trans qdd3, (hb.cells.2 _ 0 (by omega) (by omega)).trans qff0, (hb.cells.2 _ 1 (by omega) (by omega)).trans qff1, (hb.cells.2 _ 2 (by omega) (by omega)).trans qff2, (hb.cells.2 _ 3 (by omega) (by omega)).trans qff3⟩)
      clear D4 zc0 zc1 zc2 zc3 qk0 qk1 qdd0 qdd1 qdd2 qdd3 qff0 qff1 qff2 qff3
      have HD51 : Wk g e3 U.heap.size U U.drew := HDU.then ((Below.refl _ _).drew.mono HDU.size) hgU
      refine wp_region_held_drew (S := fun w' => w'.cell? ⟨ZB, 0, none⟩ = some (.int .i64 z1) ∧ w'.cell? ⟨ZB, 1, none⟩ = some (.int .i64 z2) ∧ w'.cell? ⟨ZB, 2, none⟩ = some (.int .i64 z3) ∧ w'.cell? ⟨ZB, 3, none⟩ = some (.int .i64 z4) ∧ w'.cell? ⟨PB, 0, none⟩ = some (.int .i64 p) ∧ w'.cell? ⟨PB, 1, none⟩ = some (.int .i64 q)) (by kernel_rfl) (J0.out _ _ HD51) (fun hHeld => ?_)
      refine wpAnyH_take (i := 0) (oi := _) (v := ?_) rfl (by kernel_rfl) (by kernel_rfl) (by kernel_rfl) (fun _ _ _ h => h) (Or.inl ⟨by rfl, ?_⟩) (by assumption) ?_
      rotate_left
      · intro w hSw; obtain ⟨_, _, _, _, _, _⟩ := hSw; go_simp; (try with_reducible rfl)
      try change wpAnyH _ _ _ _ _ _ _ (Act.put _ (some 39) _) _
      try simp only [act_all]
      refine wpAnyH_take (i := 1) (oi := _) (v := ?_) rfl (by kernel_rfl) (by kernel_rfl) (by kernel_rfl) (fun _ _ _ h => h) (Or.inl ⟨by rfl, ?_⟩) (by assumption) ?_
      rotate_left
      · intro w hSw; obtain ⟨_, _, _, _, _, _⟩ := hSw; go_simp; (try with_reducible rfl)
      try change wpAnyH _ _ _ _ _ _ _ (Act.put _ (some 40) _) _
      try simp only [act_all]
      refine wpAnyH_take (i := 2) (oi := _) (v := ?_) rfl (by kernel_rfl) (by kernel_rfl) (by kernel_rfl) (fun _ _ _ h => h) (Or.inl ⟨by rfl, ?_⟩) (by assumption) ?_
      rotate_left
      · intro w hSw; obtain ⟨_, _, _, _, _, _⟩ := hSw; go_simp; (try with_reducible rfl)
      try change wpAnyH _ _ _ _ _ _ _ (Act.put _ (some 41) _) _
      try simp only [act_all]
      refine wpAnyH_take (i := 3) (oi := _) (v := ?_) rfl (by kernel_rfl) (by kernel_rfl) (by kernel_rfl) (fun _ _ _ h => h) (Or.inl ⟨by rfl, ?_⟩) (by assumption) ?_
      rotate_left
      · intro w hSw; obtain ⟨_, _, _, _, _, _⟩ := hSw; go_simp; (try with_reducible rfl)
      try change wpAnyH _ _ _ _ _ _ _ (Act.put _ (some 42) _) _
      try simp only [act_all]
      refine wpAnyH_take (i := 5) (oi := _) (v := ?_) rfl (by kernel_rfl) (by kernel_rfl) (by kernel_rfl) (fun _ _ _ h => h) (Or.inl ⟨by rfl, ?_⟩) (by assumption) ?_
      rotate_left
      · intro w hSw; obtain ⟨_, _, _, _, _, _⟩ := hSw; go_simp; (try with_reducible rfl)
      try change wpAnyH _ _ _ _ _ _ _ (Act.put _ (some 44) _) _
      try simp only [act_all]
      refine wpAnyH_take (i := 6) (oi := _) (v := ?_) rfl (by kernel_rfl) (by kernel_rfl) (by kernel_rfl) (fun _ _ _ h => h) (Or.inl ⟨by rfl, ?_⟩) (by assumption) ?_
      rotate_left
      · intro w hSw; obtain ⟨_, _, _, _, _, _⟩ := hSw; go_simp; (try with_reducible rfl)
      try change wpAnyH _ _ _ _ _ _ _ (Act.put _ (some 45) _) _
      try simp only [act_all]
      refine wpAnyH_take (i := 7) (oi := _) (v := ?_) rfl (by kernel_rfl) (by kernel_rfl) (by kernel_rfl) (fun _ _ _ h => h) (Or.inl ⟨by rfl, ?_⟩) (by assumption) ?_
      rotate_left
      · intro w hSw; obtain ⟨_, _, _, _, _, _⟩ := hSw; go_simp; (try with_reducible rfl)
      try change wpAnyH _ _ _ _ _ _ _ (Act.put _ (some 46) _) _
      try simp only [act_all]
      refine wpAnyH_take (i := 8) (oi := _) (v := ?_) rfl (by kernel_rfl) (by kernel_rfl) (by kernel_rfl) (fun _ _ _ h => h) (Or.inl ⟨by rfl, ?_⟩) (by assumption) ?_
      rotate_left
      · intro w hSw; obtain ⟨_, _, _, _, _, _⟩ := hSw; go_simp; (try with_reducible rfl)
      try change wpAnyH _ _ _ _ _ _ _ (Act.put _ (some 47) _) _
      try simp only [act_all]
      refine wpAnyH_ready (rs := [4]) (by kernel_rfl) (by simp) ?_
      refine AllReadyH.cons (o := _) rfl (fun K hK => ?_) AllReadyH.nil
      go_simp
      refine (rOver_any z1 z2 p q e3 g _ HZ.out.1 HO.out HP.out HD51.cell HD51.free).mono ?_
      rintro e w52_ ⟨he, hb⟩
      obtain ⟨r, hr⟩ : ∃ r, (rn e3 (divS ⟨z1, z2⟩ ⟨p, q⟩)) = r := ⟨_, rfl⟩
      rw [hr] at he hb
      obtain ⟨⟨p1, q1⟩, e4⟩ := r
      have HR52 := Lib.hid hr
      have HD52 : Wk g e4 U.heap.size U w52_ := HD51.trans (hb.mono HD51.size)
      obtain rfl : e = .returned (.agg #[.int .i64 p1, .int .i64 q1]) := he
      have hz52 := HD52.size
      have hq52 := hb.size
      (try simp at hq52)
      clear hb hHeld hr
      refine hK.out _ _ (J0.out _ _ HD52) (fun hHeld => ?_)
      clear hK K
      try simp only [act_all]
      refine wpAnyH_ready (rs := [9]) (by kernel_rfl) (by simp) ?_
      refine AllReadyH.cons (o := _) rfl (fun K hK => ?_) AllReadyH.nil
      go_simp
      refine (rOver_any z3 z4 p q e4 g _ HZ.out.2 HO.out (fun h => by subst h; exact HP.out (rn_zero HR52.out)) HD52.cell HD52.free).mono ?_
      rintro e w53_ ⟨he, hb⟩
      obtain ⟨r, hr⟩ : ∃ r, (rn e4 (divS ⟨z3, z4⟩ ⟨p, q⟩)) = r := ⟨_, rfl⟩
      rw [hr] at he hb
      obtain ⟨⟨p2, q2⟩, e5⟩ := r
      have HR53 := Lib.hid hr
      have HD53 : Wk g e5 U.heap.size U w53_ := HD52.trans (hb.mono HD52.size)
      obtain rfl : e = .returned (.agg #[.int .i64 p2, .int .i64 q2]) := he
      have hz53 := HD53.size
      have hq53 := hb.size
      (try simp at hq53)
      clear hb hHeld hr
      refine hK.out _ _ (J0.out _ _ HD53) (fun hHeld => ?_)
      clear hK K
      try simp only [act_all]
      refine wpAnyH_take (i := 10) (oi := _) (v := ?_) rfl (by kernel_rfl) (by kernel_rfl) (by kernel_rfl) (fun _ _ _ h => h) (Or.inl ⟨by rfl, ?_⟩) (by assumption) ?_
      rotate_left
      · intro w hSw; obtain ⟨_, _, _, _, _, _⟩ := hSw; go_simp; (try with_reducible rfl)
      try change wpAnyH _ _ _ _ _ _ _ (Act.put _ (some 49) _) _
      try simp only [act_all]
      refine wpAnyH_ready (rs := [11]) (by kernel_rfl) (by simp) ?_
      refine AllReadyH.cons (o := _) rfl (fun K hK => ?_) AllReadyH.nil
      obtain ⟨_, _, _, _, _, _⟩ := J0.out _ _ HD53
      obtain ⟨_, _, _, _, _, _, _, _⟩ := J1.out _ _ HD53
      have nb : w.heap.size + 1 + 1 < w53_.heap.size := by omega
      have nz : ¬ ZB = w.heap.size + 1 + 1 := by omega
      have np : ¬ PB = w.heap.size + 1 + 1 := by omega
      go_simp
      refine hK.out _ _ (by refine ⟨?_, ?_, ?_, ?_, ?_, ?_⟩ <;> go_cell) (fun hHeld => ?_)
      clear hK K
      try simp only [act_all]
      refine wpAnyH_done (by kernel_rfl) ?_ _
      have HN : Hid (SP = (⟨⟨p1, q1⟩, ⟨p2, q2⟩⟩, e5)) := Lib.hid (by rw [← HSP.out]; simp only [divW, HR1.out, HZE.out, cjR, negS, HR2.out, HR52.out, HR53.out]; (try rfl))
      have HWF := Lib.hid (HU.out.trans (HD53.mono HU.out.size))
      have DL : Below w.heap.size w53_ w53_ := Below.refl _ _
      go_wp2_with fail
      refine bodyPost_ret (v := .agg #[.int .i64 p1, .int .i64 q1, .int .i64 p2, .int .i64 q2]) (by simp [results, Try.results77, go_sem, *]) rfl ⟨?_, ?_⟩
      · rw [HN.out]; rfl
      · rw [HN.out]; exact HWF.out.then (by go_grown) hg
  · have HZE : Hid (zerW e1 ⟨p, q⟩ = e1) := Lib.hid (by simp [zerW, he])
    have hb1 : (e1 == 0) = false := beq_eq_false_iff_ne.2 he
    have hb2 : (e1 != 0) = true := bne_iff_ne.2 he
    go_wp2_with fail
    have DB := DW1.out
    have DC : Wk g e1 w.heap.size w ((w1.setCell ⟨w.heap.size + 1, 2, none⟩ (.int .i64 (-v))).setCell ⟨w.heap.size + 1, 3, none⟩ (.int .i64 (-u))) := DB.then (((Below.refl _ _).setCell (p := ⟨w.heap.size + 1, 2, none⟩) (by simp only; omega) (.int .i64 (-v))).setCell (p := ⟨w.heap.size + 1, 3, none⟩) (by simp only; omega) (.int .i64 (-u))) hg
    have DE : Wk g e1 w.heap.size w (((w1.setCell ⟨w.heap.size + 1, 2, none⟩ (.int .i64 (-v))).setCell ⟨w.heap.size + 1, 3, none⟩ (.int .i64 (-u))).alloc (Obj.cells #[.int .i64 p, .int .i64 q] 23)) := DC.then ((bal (Below.refl _ _) _).mono DC.size) hg
    have k0 : (((w1.setCell ⟨w.heap.size + 1, 2, none⟩ (.int .i64 (-v))).setCell ⟨w.heap.size + 1, 3, none⟩ (.int .i64 (-u))).alloc (Obj.cells #[.int .i64 p, .int .i64 q] 23)).cell? ⟨w1.heap.size, 0, none⟩ = some (.int .i64 p) := by go_cell
    have k1 : (((w1.setCell ⟨w.heap.size + 1, 2, none⟩ (.int .i64 (-v))).setCell ⟨w.heap.size + 1, 3, none⟩ (.int .i64 (-u))).alloc (Obj.cells #[.int .i64 p, .int .i64 q] 23)).cell? ⟨w1.heap.size, 1, none⟩ = some (.int .i64 q) := by go_cell
    have dd0 : (((w1.setCell ⟨w.heap.size + 1, 2, none⟩ (.int .i64 (-v))).setCell ⟨w.heap.size + 1, 3, none⟩ (.int .i64 (-u))).alloc (Obj.cells #[.int .i64 p, .int .i64 q] 23)).cell? ⟨w.heap.size + 1 + 1, 0, none⟩ = some (.int .i64 0) := by go_cell
    have dd1 : (((w1.setCell ⟨w.heap.size + 1, 2, none⟩ (.int .i64 (-v))).setCell ⟨w.heap.size + 1, 3, none⟩ (.int .i64 (-u))).alloc (Obj.cells #[.int .i64 p, .int .i64 q] 23)).cell? ⟨w.heap.size + 1 + 1, 1, none⟩ = some (.int .i64 0) := by go_cell
    have dd2 : (((w1.setCell ⟨w.heap.size + 1, 2, none⟩ (.int .i64 (-v))).setCell ⟨w.heap.size + 1, 3, none⟩ (.int .i64 (-u))).alloc (Obj.cells #[.int .i64 p, .int .i64 q] 23)).cell? ⟨w.heap.size + 1 + 1, 2, none⟩ = some (.int .i64 0) := by go_cell
    have dd3 : (((w1.setCell ⟨w.heap.size + 1, 2, none⟩ (.int .i64 (-v))).setCell ⟨w.heap.size + 1, 3, none⟩ (.int .i64 (-u))).alloc (Obj.cells #[.int .i64 p, .int .i64 q] 23)).cell? ⟨w.heap.size + 1 + 1, 3, none⟩ = some (.int .i64 0) := by go_cell
    have ff0 : (((w1.setCell ⟨w.heap.size + 1, 2, none⟩ (.int .i64 (-v))).setCell ⟨w.heap.size + 1, 3, none⟩ (.int .i64 (-u))).alloc (Obj.cells #[.int .i64 p, .int .i64 q] 23)).frozen? ⟨w.heap.size + 1 + 1, 0, none⟩ = false := by go_cell
    have ff1 : (((w1.setCell ⟨w.heap.size + 1, 2, none⟩ (.int .i64 (-v))).setCell ⟨w.heap.size + 1, 3, none⟩ (.int .i64 (-u))).alloc (Obj.cells #[.int .i64 p, .int .i64 q] 23)).frozen? ⟨w.heap.size + 1 + 1, 1, none⟩ = false := by go_cell
    have ff2 : (((w1.setCell ⟨w.heap.size + 1, 2, none⟩ (.int .i64 (-v))).setCell ⟨w.heap.size + 1, 3, none⟩ (.int .i64 (-u))).alloc (Obj.cells #[.int .i64 p, .int .i64 q] 23)).frozen? ⟨w.heap.size + 1 + 1, 2, none⟩ = false := by go_cell
    have ff3 : (((w1.setCell ⟨w.heap.size + 1, 2, none⟩ (.int .i64 (-v))).setCell ⟨w.heap.size + 1, 3, none⟩ (.int .i64 (-u))).alloc (Obj.cells #[.int .i64 p, .int .i64 q] 23)).frozen? ⟨w.heap.size + 1 + 1, 3, none⟩ = false := by go_cell
    have sE : w1.heap.size < (((w1.setCell ⟨w.heap.size + 1, 2, none⟩ (.int .i64 (-v))).setCell ⟨w.heap.size + 1, 3, none⟩ (.int .i64 (-u))).alloc (Obj.cells #[.int .i64 p, .int .i64 q] 23)).heap.size := by simp
    clear DB DC hk0 hk1 x0 x1 x2 x3 y0 y1 y2 y3 yf2 yf3 d0 d1 d2 d3 f0 f1 f2 f3
    generalize (((w1.setCell ⟨w.heap.size + 1, 2, none⟩ (.int .i64 (-v))).setCell ⟨w.heap.size + 1, 3, none⟩ (.int .i64 (-u))).alloc (Obj.cells #[.int .i64 p, .int .i64 q] 23)) = V at *
    generalize w1.heap.size = PB at *
    refine (rMulW_any a b c d s t (-v) (-u) e1 g _ H1.out H2.out H3.out H5.out DE.cell DE.free).mono ?_
    rintro e w3 ⟨he, hb⟩
    obtain ⟨r, hr⟩ : ∃ r, (mulW e1 ⟨⟨a, b⟩, ⟨c, d⟩⟩ ⟨⟨s, t⟩, ⟨-v, -u⟩⟩) = r := ⟨_, rfl⟩
    rw [hr] at he hb
    obtain ⟨⟨⟨z1, z2⟩, ⟨z3, z4⟩⟩, e3⟩ := r
    obtain rfl : e = .returned (.agg #[.int .i64 z1, .int .i64 z2, .int .i64 z3, .int .i64 z4]) := he
    have HR2 := Lib.hid hr
    have HZ := Lib.hid (mulW_okR hr)
    have HP : Hid (e3 = 0 → 0 < p) := Lib.hid (fun h => by have q := mulW_err (e := e1) he ⟨⟨a, b⟩, ⟨c, d⟩⟩ ⟨⟨s, t⟩, ⟨-v, -u⟩⟩; rw [hr] at q; simp only at q; omega)
    clear hr
    have s3 : PB < w3.heap.size := by have := hb.size; omega
    have s4 : w.heap.size + 1 + 1 < w3.heap.size := by have := hb.size; omega
    have D3 := DE.trans (hb.mono DE.size)
    have zk0 := (hb.cells.1 (PB) 0 (by omega) (by omega)).trans k0
    have zk1 := (hb.cells.1 (PB) 1 (by omega) (by omega)).trans k1
    have zdd0 := (hb.cells.1 (w.heap.size + 1 + 1) 0 (by omega) (by omega)).trans dd0
    have zdd1 := (hb.cells.1 (w.heap.size + 1 + 1) 1 (by omega) (by omega)).trans dd1
    have zdd2 := (hb.cells.1 (w.heap.size + 1 + 1) 2 (by omega) (by omega)).trans dd2
    have zdd3 := (hb.cells.1 (w.heap.size + 1 + 1) 3 (by omega) (by omega)).trans dd3
    have zff0 := (hb.cells.2 (w.heap.size + 1 + 1) 0 (by omega) (by omega)).trans ff0
    have zff1 := (hb.cells.2 (w.heap.size + 1 + 1) 1 (by omega) (by omega)).trans ff1
    have zff2 := (hb.cells.2 (w.heap.size + 1 + 1) 2 (by omega) (by omega)).trans ff2
    have zff3 := (hb.cells.2 (w.heap.size + 1 + 1) 3 (by omega) (by omega)).trans ff3
    clear hb DE k0 k1 dd0 dd1 dd2 dd3 ff0 ff1 ff2 ff3
    go_upto_region 6 with fail
    have b3 : Below w3.heap.size w3 (w3.alloc (Obj.cells #[.int .i64 z1, .int .i64 z2, .int .i64 z3, .int .i64 z4] 25)) := bal (Below.refl _ _) _
    have D4 : Wk g e3 w.heap.size w (w3.alloc (Obj.cells #[.int .i64 z1, .int .i64 z2, .int .i64 z3, .int .i64 z4] 25)) := D3.then (b3.mono D3.size) hg
    have qk0 := (b3.cell (p := ⟨PB, 0, none⟩) (by simp only; omega)).trans zk0
    have qk1 := (b3.cell (p := ⟨PB, 1, none⟩) (by simp only; omega)).trans zk1
    have qdd0 := (b3.cell (p := ⟨w.heap.size + 1 + 1, 0, none⟩) (by simp only; omega)).trans zdd0
    have qdd1 := (b3.cell (p := ⟨w.heap.size + 1 + 1, 1, none⟩) (by simp only; omega)).trans zdd1
    have qdd2 := (b3.cell (p := ⟨w.heap.size + 1 + 1, 2, none⟩) (by simp only; omega)).trans zdd2
    have qdd3 := (b3.cell (p := ⟨w.heap.size + 1 + 1, 3, none⟩) (by simp only; omega)).trans zdd3
    have qff0 := (b3.frozen (p := ⟨w.heap.size + 1 + 1, 0, none⟩) (by simp only; omega)).trans zff0
    have qff1 := (b3.frozen (p := ⟨w.heap.size + 1 + 1, 1, none⟩) (by simp only; omega)).trans zff1
    have qff2 := (b3.frozen (p := ⟨w.heap.size + 1 + 1, 2, none⟩) (by simp only; omega)).trans zff2
    have qff3 := (b3.frozen (p := ⟨w.heap.size + 1 + 1, 3, none⟩) (by simp only; omega)).trans zff3
    have zc0 : (w3.alloc (Obj.cells #[.int .i64 z1, .int .i64 z2, .int .i64 z3, .int .i64 z4] 25)).cell? ⟨w3.heap.size, 0, none⟩ = some (.int .i64 z1) := by go_cell
    have zc1 : (w3.alloc (Obj.cells #[.int .i64 z1, .int .i64 z2, .int .i64 z3, .int .i64 z4] 25)).cell? ⟨w3.heap.size, 1, none⟩ = some (.int .i64 z2) := by go_cell
    have zc2 : (w3.alloc (Obj.cells #[.int .i64 z1, .int .i64 z2, .int .i64 z3, .int .i64 z4] 25)).cell? ⟨w3.heap.size, 2, none⟩ = some (.int .i64 z3) := by go_cell
    have zc3 : (w3.alloc (Obj.cells #[.int .i64 z1, .int .i64 z2, .int .i64 z3, .int .i64 z4] 25)).cell? ⟨w3.heap.size, 3, none⟩ = some (.int .i64 z4) := by go_cell
    have sU : w3.heap.size < (w3.alloc (Obj.cells #[.int .i64 z1, .int .i64 z2, .int .i64 z3, .int .i64 z4] 25)).heap.size := by simp
    clear b3 D3 zk0 zk1 zdd0 zdd1 zdd2 zdd3 zff0 zff1 zff2 zff3
    generalize (w3.alloc (Obj.cells #[.int .i64 z1, .int .i64 z2, .int .i64 z3, .int .i64 z4] 25)) = U at *
    generalize w3.heap.size = ZB at *
    have hgU : g < U.heap.size := by omega
    have HU := Lib.hid D4
    have HDU : Wk g e3 U.heap.size U U := ⟨rfl, rfl, rfl, Nat.le_refl _, fun _ _ _ => rfl, D4.cell, D4.free⟩
    have J0 : Hid (∀ (e : Int) w', Wk g e U.heap.size U w' → w'.cell? ⟨ZB, 0, none⟩ = some (.int .i64 z1) ∧ w'.cell? ⟨ZB, 1, none⟩ = some (.int .i64 z2) ∧ w'.cell? ⟨ZB, 2, none⟩ = some (.int .i64 z3) ∧ w'.cell? ⟨ZB, 3, none⟩ = some (.int .i64 z4) ∧ w'.cell? ⟨PB, 0, none⟩ = some (.int .i64 p) ∧ w'.cell? ⟨PB, 1, none⟩ = some (.int .i64 q)) := Lib.hid (fun e w' hb => by
      exact ⟨(hb.cells.1 _ 0 (by omega) (by omega)).trans zc0, (hb.cells.1 _ 1 (by omega) (by omega)).trans zc1, (hb.cells.1 _ 2 (by omega) (by omega)).trans zc2, (hb.cells.1 _ 3 (by omega) (by omega)).trans zc3, (hb.cells.1 _ 0 (by omega) (by omega)).trans qk0, (hb.cells.1 _ 1 (by omega) (by omega)).trans qk1⟩)
    have J1 : Hid (∀ (e : Int) w', Wk g e U.heap.size U w' → w'.cell? ⟨w.heap.size + 1 + 1, 0, none⟩ = some (.int .i64 0) ∧ w'.cell? ⟨w.heap.size + 1 + 1, 1, none⟩ = some (.int .i64 0) ∧ w'.cell? ⟨w.heap.size + 1 + 1, 2, none⟩ = some (.int .i64 0) ∧ w'.cell? ⟨w.heap.size + 1 + 1, 3, none⟩ = some (.int .i64 0) ∧ w'.frozen? ⟨w.heap.size + 1 + 1, 0, none⟩ = false ∧ w'.frozen? ⟨w.heap.size + 1 + 1, 1, none⟩ = false ∧ w'.frozen? ⟨w.heap.size + 1 + 1, 2, none⟩ = false ∧ w'.frozen? ⟨w.heap.size + 1 + 1, 3, none⟩ = false) := Lib.hid (fun e w' hb => by
      exact ⟨(hb.cells.1 _ 0 (by omega) (by omega)).trans qdd0, (hb.cells.1 _ 1 (by omega) (by omega)).trans qdd1, (hb.cells.1 _ 2 (by omega) (by omega)).trans qdd2, (hb.cells.1 _ 3 (by omega) (by omega)).trans qdd3, (hb.cells.2 _ 0 (by omega) (by omega)).trans qff0, (hb.cells.2 _ 1 (by omega) (by omega)).trans qff1, (hb.cells.2 _ 2 (by omega) (by omega)).trans qff2, (hb.cells.2 _ 3 (by omega) (by omega)).trans qff3⟩)
    clear D4 zc0 zc1 zc2 zc3 qk0 qk1 qdd0 qdd1 qdd2 qdd3 qff0 qff1 qff2 qff3
    have HD51 : Wk g e3 U.heap.size U U.drew := HDU.then ((Below.refl _ _).drew.mono HDU.size) hgU
    refine wp_region_held_drew (S := fun w' => w'.cell? ⟨ZB, 0, none⟩ = some (.int .i64 z1) ∧ w'.cell? ⟨ZB, 1, none⟩ = some (.int .i64 z2) ∧ w'.cell? ⟨ZB, 2, none⟩ = some (.int .i64 z3) ∧ w'.cell? ⟨ZB, 3, none⟩ = some (.int .i64 z4) ∧ w'.cell? ⟨PB, 0, none⟩ = some (.int .i64 p) ∧ w'.cell? ⟨PB, 1, none⟩ = some (.int .i64 q)) (by kernel_rfl) (J0.out _ _ HD51) (fun hHeld => ?_)
    refine wpAnyH_take (i := 0) (oi := _) (v := ?_) rfl (by kernel_rfl) (by kernel_rfl) (by kernel_rfl) (fun _ _ _ h => h) (Or.inl ⟨by rfl, ?_⟩) (by assumption) ?_
    rotate_left
    · intro w hSw; obtain ⟨_, _, _, _, _, _⟩ := hSw; go_simp; (try with_reducible rfl)
    try change wpAnyH _ _ _ _ _ _ _ (Act.put _ (some 39) _) _
    try simp only [act_all]
    refine wpAnyH_take (i := 1) (oi := _) (v := ?_) rfl (by kernel_rfl) (by kernel_rfl) (by kernel_rfl) (fun _ _ _ h => h) (Or.inl ⟨by rfl, ?_⟩) (by assumption) ?_
    rotate_left
    · intro w hSw; obtain ⟨_, _, _, _, _, _⟩ := hSw; go_simp; (try with_reducible rfl)
    try change wpAnyH _ _ _ _ _ _ _ (Act.put _ (some 40) _) _
    try simp only [act_all]
    refine wpAnyH_take (i := 2) (oi := _) (v := ?_) rfl (by kernel_rfl) (by kernel_rfl) (by kernel_rfl) (fun _ _ _ h => h) (Or.inl ⟨by rfl, ?_⟩) (by assumption) ?_
    rotate_left
    · intro w hSw; obtain ⟨_, _, _, _, _, _⟩ := hSw; go_simp; (try with_reducible rfl)
    try change wpAnyH _ _ _ _ _ _ _ (Act.put _ (some 41) _) _
    try simp only [act_all]
    refine wpAnyH_take (i := 3) (oi := _) (v := ?_) rfl (by kernel_rfl) (by kernel_rfl) (by kernel_rfl) (fun _ _ _ h => h) (Or.inl ⟨by rfl, ?_⟩) (by assumption) ?_
    rotate_left
    · intro w hSw; obtain ⟨_, _, _, _, _, _⟩ := hSw; go_simp; (try with_reducible rfl)
    try change wpAnyH _ _ _ _ _ _ _ (Act.put _ (some 42) _) _
    try simp only [act_all]
    refine wpAnyH_take (i := 5) (oi := _) (v := ?_) rfl (by kernel_rfl) (by kernel_rfl) (by kernel_rfl) (fun _ _ _ h => h) (Or.inl ⟨by rfl, ?_⟩) (by assumption) ?_
    rotate_left
    · intro w hSw; obtain ⟨_, _, _, _, _, _⟩ := hSw; go_simp; (try with_reducible rfl)
    try change wpAnyH _ _ _ _ _ _ _ (Act.put _ (some 44) _) _
    try simp only [act_all]
    refine wpAnyH_take (i := 6) (oi := _) (v := ?_) rfl (by kernel_rfl) (by kernel_rfl) (by kernel_rfl) (fun _ _ _ h => h) (Or.inl ⟨by rfl, ?_⟩) (by assumption) ?_
    rotate_left
    · intro w hSw; obtain ⟨_, _, _, _, _, _⟩ := hSw; go_simp; (try with_reducible rfl)
    try change wpAnyH _ _ _ _ _ _ _ (Act.put _ (some 45) _) _
    try simp only [act_all]
    refine wpAnyH_take (i := 7) (oi := _) (v := ?_) rfl (by kernel_rfl) (by kernel_rfl) (by kernel_rfl) (fun _ _ _ h => h) (Or.inl ⟨by rfl, ?_⟩) (by assumption) ?_
    rotate_left
    · intro w hSw; obtain ⟨_, _, _, _, _, _⟩ := hSw; go_simp; (try with_reducible rfl)
    try change wpAnyH _ _ _ _ _ _ _ (Act.put _ (some 46) _) _
    try simp only [act_all]
    refine wpAnyH_take (i := 8) (oi := _) (v := ?_) rfl (by kernel_rfl) (by kernel_rfl) (by kernel_rfl) (fun _ _ _ h => h) (Or.inl ⟨by rfl, ?_⟩) (by assumption) ?_
    rotate_left
    · intro w hSw; obtain ⟨_, _, _, _, _, _⟩ := hSw; go_simp; (try with_reducible rfl)
    try change wpAnyH _ _ _ _ _ _ _ (Act.put _ (some 47) _) _
    try simp only [act_all]
    refine wpAnyH_ready (rs := [4]) (by kernel_rfl) (by simp) ?_
    refine AllReadyH.cons (o := _) rfl (fun K hK => ?_) AllReadyH.nil
    go_simp
    refine (rOver_any z1 z2 p q e3 g _ HZ.out.1 HO.out HP.out HD51.cell HD51.free).mono ?_
    rintro e w52_ ⟨he, hb⟩
    obtain ⟨r, hr⟩ : ∃ r, (rn e3 (divS ⟨z1, z2⟩ ⟨p, q⟩)) = r := ⟨_, rfl⟩
    rw [hr] at he hb
    obtain ⟨⟨p1, q1⟩, e4⟩ := r
    have HR52 := Lib.hid hr
    have HD52 : Wk g e4 U.heap.size U w52_ := HD51.trans (hb.mono HD51.size)
    obtain rfl : e = .returned (.agg #[.int .i64 p1, .int .i64 q1]) := he
    have hz52 := HD52.size
    have hq52 := hb.size
    (try simp at hq52)
    clear hb hHeld hr
    refine hK.out _ _ (J0.out _ _ HD52) (fun hHeld => ?_)
    clear hK K
    try simp only [act_all]
    refine wpAnyH_ready (rs := [9]) (by kernel_rfl) (by simp) ?_
    refine AllReadyH.cons (o := _) rfl (fun K hK => ?_) AllReadyH.nil
    go_simp
    refine (rOver_any z3 z4 p q e4 g _ HZ.out.2 HO.out (fun h => by subst h; exact HP.out (rn_zero HR52.out)) HD52.cell HD52.free).mono ?_
    rintro e w53_ ⟨he, hb⟩
    obtain ⟨r, hr⟩ : ∃ r, (rn e4 (divS ⟨z3, z4⟩ ⟨p, q⟩)) = r := ⟨_, rfl⟩
    rw [hr] at he hb
    obtain ⟨⟨p2, q2⟩, e5⟩ := r
    have HR53 := Lib.hid hr
    have HD53 : Wk g e5 U.heap.size U w53_ := HD52.trans (hb.mono HD52.size)
    obtain rfl : e = .returned (.agg #[.int .i64 p2, .int .i64 q2]) := he
    have hz53 := HD53.size
    have hq53 := hb.size
    (try simp at hq53)
    clear hb hHeld hr
    refine hK.out _ _ (J0.out _ _ HD53) (fun hHeld => ?_)
    clear hK K
    try simp only [act_all]
    refine wpAnyH_take (i := 10) (oi := _) (v := ?_) rfl (by kernel_rfl) (by kernel_rfl) (by kernel_rfl) (fun _ _ _ h => h) (Or.inl ⟨by rfl, ?_⟩) (by assumption) ?_
    rotate_left
    · intro w hSw; obtain ⟨_, _, _, _, _, _⟩ := hSw; go_simp; (try with_reducible rfl)
    try change wpAnyH _ _ _ _ _ _ _ (Act.put _ (some 49) _) _
    try simp only [act_all]
    refine wpAnyH_ready (rs := [11]) (by kernel_rfl) (by simp) ?_
    refine AllReadyH.cons (o := _) rfl (fun K hK => ?_) AllReadyH.nil
    obtain ⟨_, _, _, _, _, _⟩ := J0.out _ _ HD53
    obtain ⟨_, _, _, _, _, _, _, _⟩ := J1.out _ _ HD53
    have nb : w.heap.size + 1 + 1 < w53_.heap.size := by omega
    have nz : ¬ ZB = w.heap.size + 1 + 1 := by omega
    have np : ¬ PB = w.heap.size + 1 + 1 := by omega
    go_simp
    refine hK.out _ _ (by refine ⟨?_, ?_, ?_, ?_, ?_, ?_⟩ <;> go_cell) (fun hHeld => ?_)
    clear hK K
    try simp only [act_all]
    refine wpAnyH_done (by kernel_rfl) ?_ _
    have HN : Hid (SP = (⟨⟨p1, q1⟩, ⟨p2, q2⟩⟩, e5)) := Lib.hid (by rw [← HSP.out]; simp only [divW, HR1.out, HZE.out, cjR, negS, HR2.out, HR52.out, HR53.out]; (try rfl))
    have HWF := Lib.hid (HU.out.trans (HD53.mono HU.out.size))
    have DL : Below w.heap.size w53_ w53_ := Below.refl _ _
    go_wp2_with fail
    refine bodyPost_ret (v := .agg #[.int .i64 p1, .int .i64 q1, .int .i64 p2, .int .i64 q2]) (by simp [results, Try.results77, go_sem, *]) rfl ⟨?_, ?_⟩
    · rw [HN.out]; rfl
    · rw [HN.out]; exact HWF.out.then (by go_grown) hg
end Go.Proofs.Ytgbnpnenejgnnaa
