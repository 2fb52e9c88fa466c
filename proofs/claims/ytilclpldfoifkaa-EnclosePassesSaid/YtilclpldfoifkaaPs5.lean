import Derived.Test.YtilclpldfoifkaaPr5
import Derived.Test.YtilclpldfoifkaaPq5
import Derived.Test.YtilclpldfoifkaaR5p
import Derived.Test.YtilclpldfoifkaaGw5
import Derived.Deep.DeepCutAuto
import Derived.Deep.CutBlock
namespace Encl
/-- The document's own way with what comes out at one side. -/
def passW (e : Int) (p q : Rc) : Sp × Int :=
  let a := powW e p
  let b := powW a.2 q
  rn b.2 (addS a.1 b.1)
theorem powW_err {e : Int} (h : ¬ e = 0) (x : Rc) : powW e x = (S0, e) := by
  unfold powW
  simp only [rn_err h]
theorem passW_err {e : Int} (h : ¬ e = 0) (p q : Rc) : passW e p q = (S0, e) := by
  unfold passW
  simp only [powW_err h, rn_err h]
theorem passW_eq (p q : Rc) : passW 0 p q = rn 0 (pasS p q) := by
  unfold passW pasS
  simp only
  rw [powW_eq p]
  cases hp : powR p with
  | bad k =>
    have hk := ne0_powR p k hp
    rw [rn_bad]
    simp only [powW_err hk, rn_err hk, Out.bind_bad]
    rw [rn_bad]
  | ok a =>
    rw [rn_ok]
    simp only [Out.bind_ok]
    rw [powW_eq q]
    cases hq : powR q with
    | bad k =>
      have hk := ne0_powR q k hq
      rw [rn_bad]
      simp only [rn_err hk, Out.bind_bad]
      rw [rn_bad]
    | ok b => rw [rn_ok]; rfl
theorem ne0_pasS (p q : Rc) : Ne0 (pasS p q) := ne0_bind (ne0_powR _) fun _ _ => ne0_bind (ne0_powR _) fun _ _ => ne0_addS _ _
theorem powW_okS2 {e e' : Int} {x : Rc} {s : Sp} (h : powW e x = (s, e')) : okS s = true := rn_okS h (fun _ h => addS_ok h)
theorem passW_okS {e e' : Int} {p q : Rc} {s : Sp} (h : passW e p q = (s, e')) : okS s = true := rn_okS h (fun _ h => addS_ok h)
end Encl
namespace Go.Proofs.Ytilclpldfoifkaa
open Go.RowKit Encl
theorem pas_fin (p q r s : Rc) : OutP (dupR p q r s) = if (passW (passW 0 p r).2 q s).2 = 0 then .returned (.tuple #[.agg #[.int .i64 (passW 0 p r).1.lo, .int .i64 (passW 0 p r).1.hi], .agg #[.int .i64 (passW (passW 0 p r).2 q s).1.lo, .int .i64 (passW (passW 0 p r).2 q s).1.hi], .int .i64 0]) else .returned (.tuple #[.agg #[.int .i64 0, .int .i64 0], .agg #[.int .i64 0, .int .i64 0], .int .i64 (passW (passW 0 p r).2 q s).2]) := by
  rw [passW_eq p r]
  unfold dupR
  cases hp : pasS p r with
  | bad k =>
    have hk := ne0_pasS p r k hp
    rw [rn_bad]
    simp only [passW_err hk, Out.bind_bad, if_neg hk]
    rfl
  | ok a =>
    rw [rn_ok]
    simp only [Out.bind_ok]
    rw [passW_eq q s]
    cases hq : pasS q s with
    | bad k =>
      have hk := ne0_pasS q s k hq
      rw [rn_bad]
      simp only [Out.bind_bad, if_neg hk]
      rfl
    | ok b => rw [rn_ok]; simp only [Out.bind_ok, if_true]; rfl

set_option maxRecDepth 100000 in
set_option maxHeartbeats 8000000 in
theorem rPasses_any (a0 b0 c0 d0 a1 b1 c1 d1 a2 b2 c2 d2 a3 b3 c3 d3 : Int) (w : World) :
    Calls Try.prog 45 #[.agg #[.int .i64 a0, .int .i64 b0, .int .i64 c0, .int .i64 d0, .int .i64 a1, .int .i64 b1, .int .i64 c1, .int .i64 d1, .int .i64 a2, .int .i64 b2, .int .i64 c2, .int .i64 d2, .int .i64 a3, .int .i64 b3, .int .i64 c3, .int .i64 d3]] w fun e w' => e = OutP (pasO ⟨⟨a0, b0⟩, ⟨c0, d0⟩⟩ ⟨⟨a1, b1⟩, ⟨c1, d1⟩⟩ ⟨⟨a2, b2⟩, ⟨c2, d2⟩⟩ ⟨⟨a3, b3⟩, ⟨c3, d3⟩⟩) ∧ Below w.heap.size w w' := by
  obtain ⟨SP, hsp⟩ : ∃ SP, pasO ⟨⟨a0, b0⟩, ⟨c0, d0⟩⟩ ⟨⟨a1, b1⟩, ⟨c1, d1⟩⟩ ⟨⟨a2, b2⟩, ⟨c2, d2⟩⟩ ⟨⟨a3, b3⟩, ⟨c3, d3⟩⟩ = SP := ⟨_, rfl⟩
  have HSP := Lib.hid hsp
  rw [hsp]
  clear hsp
  obtain ⟨bb, hbb⟩ : ∃ bb, okP ⟨⟨a0, b0⟩, ⟨c0, d0⟩⟩ ⟨⟨a1, b1⟩, ⟨c1, d1⟩⟩ ⟨⟨a2, b2⟩, ⟨c2, d2⟩⟩ ⟨⟨a3, b3⟩, ⟨c3, d3⟩⟩ = bb := ⟨_, rfl⟩
  have HBB := Lib.hid hbb
  clear hbb
  go_enter Try.func45, Try.ntmps45
  go_wp2_with fail
  refine (rValidPort_any a0 b0 c0 d0 a1 b1 c1 d1 a2 b2 c2 d2 a3 b3 c3 d3 _).mono ?_
  rw [HBB.out]
  rintro e w1 ⟨rfl, hb⟩
  have D1 : Below w.heap.size w w1 := Below.trans (by go_grown) (hb.mono (by first | omega | (simp; done) | (simp; omega)))
  have s1 : w.heap.size + 1 + 1 < w1.heap.size := by have hs := hb.size; (try simp at hs); omega
  have s1a : w.heap.size + 1 < w1.heap.size := by omega
  have s1b : w.heap.size < w1.heap.size := by omega
  obtain ⟨k1, k2⟩ := bcl hb
  have x0 := (k1 (w.heap.size) 0 (by first | omega | (simp; done) | (simp; omega))).trans (by go_cell : _ = some (.int .i64 a0))
  have x1 := (k1 (w.heap.size) 1 (by first | omega | (simp; done) | (simp; omega))).trans (by go_cell : _ = some (.int .i64 b0))
  have x2 := (k1 (w.heap.size) 2 (by first | omega | (simp; done) | (simp; omega))).trans (by go_cell : _ = some (.int .i64 c0))
  have x3 := (k1 (w.heap.size) 3 (by first | omega | (simp; done) | (simp; omega))).trans (by go_cell : _ = some (.int .i64 d0))
  have x4 := (k1 (w.heap.size) 4 (by first | omega | (simp; done) | (simp; omega))).trans (by go_cell : _ = some (.int .i64 a1))
  have x5 := (k1 (w.heap.size) 5 (by first | omega | (simp; done) | (simp; omega))).trans (by go_cell : _ = some (.int .i64 b1))
  have x6 := (k1 (w.heap.size) 6 (by first | omega | (simp; done) | (simp; omega))).trans (by go_cell : _ = some (.int .i64 c1))
  have x7 := (k1 (w.heap.size) 7 (by first | omega | (simp; done) | (simp; omega))).trans (by go_cell : _ = some (.int .i64 d1))
  have x8 := (k1 (w.heap.size) 8 (by first | omega | (simp; done) | (simp; omega))).trans (by go_cell : _ = some (.int .i64 a2))
  have x9 := (k1 (w.heap.size) 9 (by first | omega | (simp; done) | (simp; omega))).trans (by go_cell : _ = some (.int .i64 b2))
  have x10 := (k1 (w.heap.size) 10 (by first | omega | (simp; done) | (simp; omega))).trans (by go_cell : _ = some (.int .i64 c2))
  have x11 := (k1 (w.heap.size) 11 (by first | omega | (simp; done) | (simp; omega))).trans (by go_cell : _ = some (.int .i64 d2))
  have x12 := (k1 (w.heap.size) 12 (by first | omega | (simp; done) | (simp; omega))).trans (by go_cell : _ = some (.int .i64 a3))
  have x13 := (k1 (w.heap.size) 13 (by first | omega | (simp; done) | (simp; omega))).trans (by go_cell : _ = some (.int .i64 b3))
  have x14 := (k1 (w.heap.size) 14 (by first | omega | (simp; done) | (simp; omega))).trans (by go_cell : _ = some (.int .i64 c3))
  have x15 := (k1 (w.heap.size) 15 (by first | omega | (simp; done) | (simp; omega))).trans (by go_cell : _ = some (.int .i64 d3))
  have dd10 := (k1 (w.heap.size + 1) 0 (by first | omega | (simp; done) | (simp; omega))).trans (by go_cell : _ = some (.int .i64 0))
  have ff10 := (k2 (w.heap.size + 1) 0 (by first | omega | (simp; done) | (simp; omega))).trans (by go_cell : _ = false)
  have dd11 := (k1 (w.heap.size + 1) 1 (by first | omega | (simp; done) | (simp; omega))).trans (by go_cell : _ = some (.int .i64 0))
  have ff11 := (k2 (w.heap.size + 1) 1 (by first | omega | (simp; done) | (simp; omega))).trans (by go_cell : _ = false)
  have dd20 := (k1 (w.heap.size + 1 + 1) 0 (by first | omega | (simp; done) | (simp; omega))).trans (by go_cell : _ = some (.int .i64 0))
  have ff20 := (k2 (w.heap.size + 1 + 1) 0 (by first | omega | (simp; done) | (simp; omega))).trans (by go_cell : _ = false)
  have dd21 := (k1 (w.heap.size + 1 + 1) 1 (by first | omega | (simp; done) | (simp; omega))).trans (by go_cell : _ = some (.int .i64 0))
  have ff21 := (k2 (w.heap.size + 1 + 1) 1 (by first | omega | (simp; done) | (simp; omega))).trans (by go_cell : _ = false)
  clear hb k1 k2
  cases bb with
  | false =>
    have HN : Hid (SP = .bad 50) := Lib.hid (by rw [← HSP.out]; unfold pasO; rw [if_neg (by rw [HBB.out]; decide)])
    clear x0 x1 x2 x3 x4 x5 x6 x7 x8 x9 x10 x11 x12 x13 x14 x15
    go_wp2_with fail
    refine bodyPost_ret (v := .tuple #[.agg #[.int .i64 0, .int .i64 0], .agg #[.int .i64 0, .int .i64 0], .int .i64 50]) (by simp [results, Try.results45, go_sem, *]) rfl ⟨by rw [HN.out]; rfl, by go_grown⟩
  | true =>
    have HN : Hid (dupR ⟨⟨a0, b0⟩, ⟨c0, d0⟩⟩ ⟨⟨a1, b1⟩, ⟨c1, d1⟩⟩ ⟨⟨a2, b2⟩, ⟨c2, d2⟩⟩ ⟨⟨a3, b3⟩, ⟨c3, d3⟩⟩ = SP) := Lib.hid (by rw [← HSP.out]; unfold pasO; rw [if_pos HBB.out])
    have HO0 := Lib.hid ((okR_iff _).1 (okP_iff.1 HBB.out).1)
    have HO1 := Lib.hid ((okR_iff _).1 (okP_iff.1 HBB.out).2.1)
    have HO2 := Lib.hid ((okR_iff _).1 (okP_iff.1 HBB.out).2.2.1)
    have HO3 := Lib.hid ((okR_iff _).1 (okP_iff.1 HBB.out).2.2.2)
    go_upto_region 4 with fail
    have b3 : Below w1.heap.size w1 (w1.alloc (Obj.cells #[.int .i64 0] 71)) := bal (Below.refl _ _) _
    have DE : Below w.heap.size w (w1.alloc (Obj.cells #[.int .i64 0] 71)) := D1.trans (b3.mono D1.size)
    have ex0 := (b3.cell (p := ⟨w.heap.size, 0, none⟩) s1b).trans x0
    have ex1 := (b3.cell (p := ⟨w.heap.size, 1, none⟩) s1b).trans x1
    have ex2 := (b3.cell (p := ⟨w.heap.size, 2, none⟩) s1b).trans x2
    have ex3 := (b3.cell (p := ⟨w.heap.size, 3, none⟩) s1b).trans x3
    have ex4 := (b3.cell (p := ⟨w.heap.size, 4, none⟩) s1b).trans x4
    have ex5 := (b3.cell (p := ⟨w.heap.size, 5, none⟩) s1b).trans x5
    have ex6 := (b3.cell (p := ⟨w.heap.size, 6, none⟩) s1b).trans x6
    have ex7 := (b3.cell (p := ⟨w.heap.size, 7, none⟩) s1b).trans x7
    have ex8 := (b3.cell (p := ⟨w.heap.size, 8, none⟩) s1b).trans x8
    have ex9 := (b3.cell (p := ⟨w.heap.size, 9, none⟩) s1b).trans x9
    have ex10 := (b3.cell (p := ⟨w.heap.size, 10, none⟩) s1b).trans x10
    have ex11 := (b3.cell (p := ⟨w.heap.size, 11, none⟩) s1b).trans x11
    have ex12 := (b3.cell (p := ⟨w.heap.size, 12, none⟩) s1b).trans x12
    have ex13 := (b3.cell (p := ⟨w.heap.size, 13, none⟩) s1b).trans x13
    have ex14 := (b3.cell (p := ⟨w.heap.size, 14, none⟩) s1b).trans x14
    have ex15 := (b3.cell (p := ⟨w.heap.size, 15, none⟩) s1b).trans x15
    have ed10 := (b3.cell (p := ⟨w.heap.size + 1, 0, none⟩) s1a).trans dd10
    have ef10 := (b3.frozen (p := ⟨w.heap.size + 1, 0, none⟩) s1a).trans ff10
    have ed11 := (b3.cell (p := ⟨w.heap.size + 1, 1, none⟩) s1a).trans dd11
    have ef11 := (b3.frozen (p := ⟨w.heap.size + 1, 1, none⟩) s1a).trans ff11
    have ed20 := (b3.cell (p := ⟨w.heap.size + 1 + 1, 0, none⟩) s1).trans dd20
    have ef20 := (b3.frozen (p := ⟨w.heap.size + 1 + 1, 0, none⟩) s1).trans ff20
    have ed21 := (b3.cell (p := ⟨w.heap.size + 1 + 1, 1, none⟩) s1).trans dd21
    have ef21 := (b3.frozen (p := ⟨w.heap.size + 1 + 1, 1, none⟩) s1).trans ff21
    have gc : (w1.alloc (Obj.cells #[.int .i64 0] 71)).cell? ⟨w1.heap.size, 0, none⟩ = some (.int .i64 0) := by go_cell
    have gf : (w1.alloc (Obj.cells #[.int .i64 0] 71)).frozen? ⟨w1.heap.size, 0, none⟩ = false := by go_cell
    have sE : w1.heap.size < (w1.alloc (Obj.cells #[.int .i64 0] 71)).heap.size := by simp
    clear b3 D1 x0 x1 x2 x3 x4 x5 x6 x7 x8 x9 x10 x11 x12 x13 x14 x15 dd10 ff10 dd11 ff11 dd20 ff20 dd21 ff21
    generalize (w1.alloc (Obj.cells #[.int .i64 0] 71)) = W at *
    generalize w1.heap.size = G at *
    have oG : w.heap.size + 1 + 1 < G := by omega
    have GA : Hid (∀ (e : Int) w', Wk G e W.heap.size W w' → w'.cell? ⟨w.heap.size, 0, none⟩ = some (.int .i64 a0) ∧ w'.cell? ⟨w.heap.size, 1, none⟩ = some (.int .i64 b0) ∧ w'.cell? ⟨w.heap.size, 2, none⟩ = some (.int .i64 c0) ∧ w'.cell? ⟨w.heap.size, 3, none⟩ = some (.int .i64 d0) ∧ w'.cell? ⟨w.heap.size, 8, none⟩ = some (.int .i64 a2) ∧ w'.cell? ⟨w.heap.size, 9, none⟩ = some (.int .i64 b2) ∧ w'.cell? ⟨w.heap.size, 10, none⟩ = some (.int .i64 c2) ∧ w'.cell? ⟨w.heap.size, 11, none⟩ = some (.int .i64 d2)) := Lib.hid (fun e w' hb => ⟨(hb.cells.1 _ 0 (by omega) (by omega)).trans ex0, (hb.cells.1 _ 1 (by omega) (by omega)).trans ex1, (hb.cells.1 _ 2 (by omega) (by omega)).trans ex2, (hb.cells.1 _ 3 (by omega) (by omega)).trans ex3, (hb.cells.1 _ 8 (by omega) (by omega)).trans ex8, (hb.cells.1 _ 9 (by omega) (by omega)).trans ex9, (hb.cells.1 _ 10 (by omega) (by omega)).trans ex10, (hb.cells.1 _ 11 (by omega) (by omega)).trans ex11⟩)
    have GB : Hid (∀ (e : Int) w', Wk G e W.heap.size W w' → w'.cell? ⟨w.heap.size, 0, none⟩ = some (.int .i64 a0) ∧ w'.cell? ⟨w.heap.size, 1, none⟩ = some (.int .i64 b0) ∧ w'.cell? ⟨w.heap.size, 2, none⟩ = some (.int .i64 c0) ∧ w'.cell? ⟨w.heap.size, 3, none⟩ = some (.int .i64 d0) ∧ w'.cell? ⟨w.heap.size, 4, none⟩ = some (.int .i64 a1) ∧ w'.cell? ⟨w.heap.size, 5, none⟩ = some (.int .i64 b1) ∧ w'.cell? ⟨w.heap.size, 6, none⟩ = some (.int .i64 c1) ∧ w'.cell? ⟨w.heap.size, 7, none⟩ = some (.int .i64 d1) ∧ w'.cell? ⟨w.heap.size, 8, none⟩ = some (.int .i64 a2) ∧ w'.cell? ⟨w.heap.size, 9, none⟩ = some (.int .i64 b2) ∧ w'.cell? ⟨w.heap.size, 10, none⟩ = some (.int .i64 c2) ∧ w'.cell? ⟨w.heap.size, 11, none⟩ = some (.int .i64 d2) ∧ w'.cell? ⟨w.heap.size, 12, none⟩ = some (.int .i64 a3) ∧ w'.cell? ⟨w.heap.size, 13, none⟩ = some (.int .i64 b3) ∧ w'.cell? ⟨w.heap.size, 14, none⟩ = some (.int .i64 c3) ∧ w'.cell? ⟨w.heap.size, 15, none⟩ = some (.int .i64 d3) ∧ w'.cell? ⟨w.heap.size + 1, 0, none⟩ = some (.int .i64 0) ∧ w'.cell? ⟨w.heap.size + 1, 1, none⟩ = some (.int .i64 0) ∧ w'.cell? ⟨w.heap.size + 1 + 1, 0, none⟩ = some (.int .i64 0) ∧ w'.cell? ⟨w.heap.size + 1 + 1, 1, none⟩ = some (.int .i64 0) ∧ w'.frozen? ⟨w.heap.size + 1, 0, none⟩ = false ∧ w'.frozen? ⟨w.heap.size + 1, 1, none⟩ = false ∧ w'.frozen? ⟨w.heap.size + 1 + 1, 0, none⟩ = false ∧ w'.frozen? ⟨w.heap.size + 1 + 1, 1, none⟩ = false) := Lib.hid (fun e w' hb => ⟨(hb.cells.1 _ 0 (by omega) (by omega)).trans ex0, (hb.cells.1 _ 1 (by omega) (by omega)).trans ex1, (hb.cells.1 _ 2 (by omega) (by omega)).trans ex2, (hb.cells.1 _ 3 (by omega) (by omega)).trans ex3, (hb.cells.1 _ 4 (by omega) (by omega)).trans ex4, (hb.cells.1 _ 5 (by omega) (by omega)).trans ex5, (hb.cells.1 _ 6 (by omega) (by omega)).trans ex6, (hb.cells.1 _ 7 (by omega) (by omega)).trans ex7, (hb.cells.1 _ 8 (by omega) (by omega)).trans ex8, (hb.cells.1 _ 9 (by omega) (by omega)).trans ex9, (hb.cells.1 _ 10 (by omega) (by omega)).trans ex10, (hb.cells.1 _ 11 (by omega) (by omega)).trans ex11, (hb.cells.1 _ 12 (by omega) (by omega)).trans ex12, (hb.cells.1 _ 13 (by omega) (by omega)).trans ex13, (hb.cells.1 _ 14 (by omega) (by omega)).trans ex14, (hb.cells.1 _ 15 (by omega) (by omega)).trans ex15, (hb.cells.1 _ 0 (by omega) (by omega)).trans ed10, (hb.cells.1 _ 1 (by omega) (by omega)).trans ed11, (hb.cells.1 _ 0 (by omega) (by omega)).trans ed20, (hb.cells.1 _ 1 (by omega) (by omega)).trans ed21, (hb.cells.2 _ 0 (by omega) (by omega)).trans ef10, (hb.cells.2 _ 1 (by omega) (by omega)).trans ef11, (hb.cells.2 _ 0 (by omega) (by omega)).trans ef20, (hb.cells.2 _ 1 (by omega) (by omega)).trans ef21⟩)
    have HDx : Wk G 0 W.heap.size W W := ⟨rfl, rfl, rfl, Nat.le_refl _, fun _ _ _ => rfl, gc, gf⟩
    have hgW : G < W.heap.size := by omega
    have HDD := Lib.hid DE
    clear DE gc gf ex0 ex1 ex2 ex3 ex4 ex5 ex6 ex7 ex8 ex9 ex10 ex11 ex12 ex13 ex14 ex15 ed10 ed11 ed20 ed21 ef10 ef11 ef20 ef21
    obtain ⟨px, qx, xe, hx⟩ : ∃ x1 x2 xx, passW 0 ⟨⟨a0, b0⟩, ⟨c0, d0⟩⟩ ⟨⟨a2, b2⟩, ⟨c2, d2⟩⟩ = (⟨x1, x2⟩, xx) := ⟨_, _, _, rfl⟩
    have HX4 := Lib.hid hx
    clear hx
    go_cut [6] (fun vx wx => ∃ bx : Nat, vx = .pointer (some ⟨bx, 0, none⟩) ∧ W.heap.size ≤ bx ∧ bx < wx.heap.size ∧ wx.cell? ⟨bx, 0, none⟩ = some (.int .i64 px) ∧ wx.cell? ⟨bx, 1, none⟩ = some (.int .i64 qx) ∧ Wk G xe W.heap.size W wx)
    case first =>
      have HD401 : Wk G 0 W.heap.size W W.drew := HDx.then ((Below.refl _ _).drew.mono HDx.size) hgW
      refine wp_region_held_drew (S := fun w' => w'.cell? ⟨w.heap.size, 0, none⟩ = some (.int .i64 a0) ∧ w'.cell? ⟨w.heap.size, 1, none⟩ = some (.int .i64 b0) ∧ w'.cell? ⟨w.heap.size, 2, none⟩ = some (.int .i64 c0) ∧ w'.cell? ⟨w.heap.size, 3, none⟩ = some (.int .i64 d0) ∧ w'.cell? ⟨w.heap.size, 8, none⟩ = some (.int .i64 a2) ∧ w'.cell? ⟨w.heap.size, 9, none⟩ = some (.int .i64 b2) ∧ w'.cell? ⟨w.heap.size, 10, none⟩ = some (.int .i64 c2) ∧ w'.cell? ⟨w.heap.size, 11, none⟩ = some (.int .i64 d2)) (by kernel_rfl) (GA.out _ _ HD401) (fun hHeld => ?_)
      refine wpAnyH_take (i := 0) (oi := _) (v := ?_) rfl (by kernel_rfl) (by kernel_rfl) (by kernel_rfl) (fun _ _ _ h => h) (Or.inl ⟨by rfl, ?_⟩) (by assumption) ?_
      rotate_left
      · intro w hSw; obtain ⟨_, _, _, _, _, _, _, _⟩ := hSw; go_simp; (try with_reducible rfl)
      try change wpAnyH _ _ _ _ _ _ _ (Act.put _ (some 15) _) _
      try simp only [act_all]
      refine wpAnyH_take (i := 1) (oi := _) (v := ?_) rfl (by kernel_rfl) (by kernel_rfl) (by kernel_rfl) (fun _ _ _ h => h) (Or.inl ⟨by rfl, ?_⟩) (by assumption) ?_
      rotate_left
      · intro w hSw; obtain ⟨_, _, _, _, _, _, _, _⟩ := hSw; go_simp; (try with_reducible rfl)
      try change wpAnyH _ _ _ _ _ _ _ (Act.put _ (some 16) _) _
      try simp only [act_all]
      refine wpAnyH_take (i := 2) (oi := _) (v := ?_) rfl (by kernel_rfl) (by kernel_rfl) (by kernel_rfl) (fun _ _ _ h => h) (Or.inl ⟨by rfl, ?_⟩) (by assumption) ?_
      rotate_left
      · intro w hSw; obtain ⟨_, _, _, _, _, _, _, _⟩ := hSw; go_simp; (try with_reducible rfl)
      try change wpAnyH _ _ _ _ _ _ _ (Act.put _ (some 17) _) _
      try simp only [act_all]
      refine wpAnyH_take (i := 3) (oi := _) (v := ?_) rfl (by kernel_rfl) (by kernel_rfl) (by kernel_rfl) (fun _ _ _ h => h) (Or.inl ⟨by rfl, ?_⟩) (by assumption) ?_
      rotate_left
      · intro w hSw; obtain ⟨_, _, _, _, _, _, _, _⟩ := hSw; go_simp; (try with_reducible rfl)
      try change wpAnyH _ _ _ _ _ _ _ (Act.put _ (some 18) _) _
      try simp only [act_all]
      refine wpAnyH_take (i := 4) (oi := _) (v := ?_) rfl (by kernel_rfl) (by kernel_rfl) (by kernel_rfl) (fun _ _ _ h => h) (Or.inl ⟨by rfl, ?_⟩) (by assumption) ?_
      rotate_left
      · intro w hSw; obtain ⟨_, _, _, _, _, _, _, _⟩ := hSw; go_simp; (try with_reducible rfl)
      try change wpAnyH _ _ _ _ _ _ _ (Act.put _ (some 19) _) _
      try simp only [act_all]
      refine wpAnyH_take (i := 5) (oi := _) (v := ?_) rfl (by kernel_rfl) (by kernel_rfl) (by kernel_rfl) (fun _ _ _ h => h) (Or.inl ⟨by rfl, ?_⟩) (by assumption) ?_
      rotate_left
      · intro w hSw; obtain ⟨_, _, _, _, _, _, _, _⟩ := hSw; go_simp; (try with_reducible rfl)
      try change wpAnyH _ _ _ _ _ _ _ (Act.put _ (some 20) _) _
      try simp only [act_all]
      refine wpAnyH_take (i := 7) (oi := _) (v := ?_) rfl (by kernel_rfl) (by kernel_rfl) (by kernel_rfl) (fun _ _ _ h => h) (Or.inl ⟨by rfl, ?_⟩) (by assumption) ?_
      rotate_left
      · intro w hSw; obtain ⟨_, _, _, _, _, _, _, _⟩ := hSw; go_simp; (try with_reducible rfl)
      try change wpAnyH _ _ _ _ _ _ _ (Act.put _ (some 22) _) _
      try simp only [act_all]
      refine wpAnyH_take (i := 8) (oi := _) (v := ?_) rfl (by kernel_rfl) (by kernel_rfl) (by kernel_rfl) (fun _ _ _ h => h) (Or.inl ⟨by rfl, ?_⟩) (by assumption) ?_
      rotate_left
      · intro w hSw; obtain ⟨_, _, _, _, _, _, _, _⟩ := hSw; go_simp; (try with_reducible rfl)
      try change wpAnyH _ _ _ _ _ _ _ (Act.put _ (some 23) _) _
      try simp only [act_all]
      refine wpAnyH_take (i := 9) (oi := _) (v := ?_) rfl (by kernel_rfl) (by kernel_rfl) (by kernel_rfl) (fun _ _ _ h => h) (Or.inl ⟨by rfl, ?_⟩) (by assumption) ?_
      rotate_left
      · intro w hSw; obtain ⟨_, _, _, _, _, _, _, _⟩ := hSw; go_simp; (try with_reducible rfl)
      try change wpAnyH _ _ _ _ _ _ _ (Act.put _ (some 24) _) _
      try simp only [act_all]
      refine wpAnyH_take (i := 10) (oi := _) (v := ?_) rfl (by kernel_rfl) (by kernel_rfl) (by kernel_rfl) (fun _ _ _ h => h) (Or.inl ⟨by rfl, ?_⟩) (by assumption) ?_
      rotate_left
      · intro w hSw; obtain ⟨_, _, _, _, _, _, _, _⟩ := hSw; go_simp; (try with_reducible rfl)
      try change wpAnyH _ _ _ _ _ _ _ (Act.put _ (some 25) _) _
      try simp only [act_all]
      refine wpAnyH_take (i := 11) (oi := _) (v := ?_) rfl (by kernel_rfl) (by kernel_rfl) (by kernel_rfl) (fun _ _ _ h => h) (Or.inl ⟨by rfl, ?_⟩) (by assumption) ?_
      rotate_left
      · intro w hSw; obtain ⟨_, _, _, _, _, _, _, _⟩ := hSw; go_simp; (try with_reducible rfl)
      try change wpAnyH _ _ _ _ _ _ _ (Act.put _ (some 26) _) _
      try simp only [act_all]
      refine wpAnyH_ready (rs := [6, 14]) (by kernel_rfl) (by simp) ?_
      refine AllReadyH.cons (o := _) rfl (fun K hK => ?_) ?_
      · go_simp
        refine (rPowerW_any a0 b0 c0 d0 0 G _ HO0.out.1 HO0.out.2 HD401.cell HD401.free).mono ?_
        rintro e w402_ ⟨he, hb⟩
        obtain ⟨r, hr⟩ : ∃ r, (powW 0 ⟨⟨a0, b0⟩, ⟨c0, d0⟩⟩) = r := ⟨_, rfl⟩
        rw [hr] at he hb
        obtain ⟨⟨m1, m2⟩, me⟩ := r
        have HR402 := Lib.hid hr
        have HD402 : Wk G me W.heap.size W w402_ := HD401.trans (hb.mono HD401.size)
        obtain rfl : e = .returned (.agg #[.int .i64 m1, .int .i64 m2]) := he
        have hz402 := HD402.size
        have hq402 := hb.size
        (try simp at hq402)
        clear hb hHeld hr
        refine hK.out _ _ (GA.out _ _ HD402) (fun hHeld => ?_)
        clear hK K
        try simp only [act_all]
        refine wpAnyH_ready (rs := [12, 14]) (by kernel_rfl) (by simp) ?_
        refine AllReadyH.cons (o := _) rfl (fun K hK => ?_) ?_
        · go_simp
          refine (rPowerW_any a2 b2 c2 d2 me G _ HO2.out.1 HO2.out.2 HD402.cell HD402.free).mono ?_
          rintro e w403_ ⟨he, hb⟩
          obtain ⟨r, hr⟩ : ∃ r, (powW me ⟨⟨a2, b2⟩, ⟨c2, d2⟩⟩) = r := ⟨_, rfl⟩
          rw [hr] at he hb
          obtain ⟨⟨n1, n2⟩, ne⟩ := r
          have HR403 := Lib.hid hr
          have HD403 : Wk G ne W.heap.size W w403_ := HD402.trans (hb.mono HD402.size)
          obtain rfl : e = .returned (.agg #[.int .i64 n1, .int .i64 n2]) := he
          have hz403 := HD403.size
          have hq403 := hb.size
          (try simp at hq403)
          clear hb hHeld hr
          refine hK.out _ _ (GA.out _ _ HD403) (fun hHeld => ?_)
          clear hK K
          try simp only [act_all]
          refine wpAnyH_ready (rs := [13, 14]) (by kernel_rfl) (by simp) ?_
          refine AllReadyH.cons (o := _) rfl (fun K hK => ?_) ?_
          · go_simp
            refine (rSum_any m1 m2 n1 n2 ne G _ (powW_okS2 HR402.out) (powW_okS2 HR403.out) HD403.cell HD403.free).mono ?_
            rintro e w404_ ⟨he, hb⟩
            obtain ⟨r, hr⟩ : ∃ r, (rn ne (addS ⟨m1, m2⟩ ⟨n1, n2⟩)) = r := ⟨_, rfl⟩
            rw [hr] at he hb
            obtain ⟨⟨z1, z2⟩, ze⟩ := r
            have HR404 := Lib.hid hr
            have HD404 : Wk G ze W.heap.size W w404_ := HD403.trans (hb.mono HD403.size)
            obtain rfl : e = .returned (.agg #[.int .i64 z1, .int .i64 z2]) := he
            have hz404 := HD404.size
            have hq404 := hb.size
            (try simp at hq404)
            clear hb hHeld hr
            refine hK.out _ _ (GA.out _ _ HD404) (fun hHeld => ?_)
            clear hK K
            try simp only [act_all]
            refine wpAnyH_ready (rs := [14]) (by kernel_rfl) (by simp) ?_
            refine AllReadyH.cons (o := _) rfl (fun K hK => ?_) AllReadyH.nil
            have HD405 : Wk G ze W.heap.size W (w404_.alloc (Obj.cells #[.int .i64 0, .int .i64 0] 23)) := HD404.then ((bal (Below.refl _ _) _).mono HD404.size) hgW
            go_simp
            refine hK.out _ _ (GA.out _ _ HD405) (fun hHeld => ?_)
            clear hK K
            try simp only [act_all]
            refine wpAnyH_ready (rs := [15]) (by kernel_rfl) (by simp) ?_
            refine AllReadyH.cons (o := _) rfl (fun K hK => ?_) AllReadyH.nil
            obtain ⟨_, _, _, _, _, _, _, _⟩ := GA.out _ _ HD405
            have nw : w.heap.size < w404_.heap.size := by omega
            have nx : ¬ w404_.heap.size = w.heap.size := by omega
            go_simp
            refine hK.out _ _ (by refine ⟨?_, ?_, ?_, ?_, ?_, ?_, ?_, ?_⟩ <;> go_cell) (fun hHeld => ?_)
            clear hK K
            try simp only [act_all]
            refine wpAnyH_done (by kernel_rfl) ?_ _
            have HEQ : Hid (z1 = px ∧ z2 = qx ∧ ze = xe) := Lib.hid (by have h := HX4.out; simp only [passW, HR402.out, HR403.out, HR404.out] at h; obtain ⟨h1, h2⟩ := Prod.mk.inj h; obtain ⟨h3, h4⟩ := Sp.mk.inj h1; exact ⟨h3, h4, h2⟩)
            obtain ⟨rfl, rfl, rfl⟩ := HEQ.out
            go_wp2_with fail
            go_meet
            refine ⟨w404_.heap.size, rfl, ?_, ?_, ?_, ?_, HD404.then ((bal (Below.refl _ _) _).mono HD404.size) hgW⟩
            all_goals first | (go_cell; done) | omega | (simp; done) | (simp; omega)
          refine AllReadyH.cons (o := _) rfl (fun K hK => ?_) AllReadyH.nil
          have HD406 : Wk G ne W.heap.size W (w403_.alloc (Obj.cells #[.int .i64 0, .int .i64 0] 23)) := HD403.then ((bal (Below.refl _ _) _).mono HD403.size) hgW
          go_simp
          refine hK.out _ _ (GA.out _ _ HD406) (fun hHeld => ?_)
          clear hK K
          try simp only [act_all]
          refine wpAnyH_ready (rs := [13]) (by kernel_rfl) (by simp) ?_
          refine AllReadyH.cons (o := _) rfl (fun K hK => ?_) AllReadyH.nil
          go_simp
          refine (rSum_any m1 m2 n1 n2 ne G _ (powW_okS2 HR402.out) (powW_okS2 HR403.out) HD406.cell HD406.free).mono ?_
          rintro e w407_ ⟨he, hb⟩
          obtain ⟨r, hr⟩ : ∃ r, (rn ne (addS ⟨m1, m2⟩ ⟨n1, n2⟩)) = r := ⟨_, rfl⟩
          rw [hr] at he hb
          obtain ⟨⟨z1, z2⟩, ze⟩ := r
          have HR407 := Lib.hid hr
          have HD407 : Wk G ze W.heap.size W w407_ := HD406.trans (hb.mono HD406.size)
          obtain rfl : e = .returned (.agg #[.int .i64 z1, .int .i64 z2]) := he
          have hz407 := HD407.size
          have hq407 := hb.size
          (try simp at hq407)
          have t407_0 := (hb.cells.1 (w403_.heap.size) 0 (by first | omega | (simp; done) | (simp; omega)) (by omega)).trans (by go_cell : _ = some (.int .i64 0))
          have z407_0 := (hb.cells.2 (w403_.heap.size) 0 (by first | omega | (simp; done) | (simp; omega)) (by omega)).trans (by go_cell : _ = false)
          have t407_1 := (hb.cells.1 (w403_.heap.size) 1 (by first | omega | (simp; done) | (simp; omega)) (by omega)).trans (by go_cell : _ = some (.int .i64 0))
          have z407_1 := (hb.cells.2 (w403_.heap.size) 1 (by first | omega | (simp; done) | (simp; omega)) (by omega)).trans (by go_cell : _ = false)
          have l407 : w403_.heap.size < w407_.heap.size := by omega
          clear hb hHeld hr
          refine hK.out _ _ (GA.out _ _ HD407) (fun hHeld => ?_)
          clear hK K
          try simp only [act_all]
          refine wpAnyH_ready (rs := [15]) (by kernel_rfl) (by simp) ?_
          refine AllReadyH.cons (o := _) rfl (fun K hK => ?_) AllReadyH.nil
          obtain ⟨_, _, _, _, _, _, _, _⟩ := GA.out _ _ HD407
          have nw : w.heap.size < w407_.heap.size := by omega
          have nx : ¬ w403_.heap.size = w.heap.size := by omega
          go_simp
          refine hK.out _ _ (by refine ⟨?_, ?_, ?_, ?_, ?_, ?_, ?_, ?_⟩ <;> go_cell) (fun hHeld => ?_)
          clear hK K
          try simp only [act_all]
          refine wpAnyH_done (by kernel_rfl) ?_ _
          have HEQ : Hid (z1 = px ∧ z2 = qx ∧ ze = xe) := Lib.hid (by have h := HX4.out; simp only [passW, HR402.out, HR403.out, HR407.out] at h; obtain ⟨h1, h2⟩ := Prod.mk.inj h; obtain ⟨h3, h4⟩ := Sp.mk.inj h1; exact ⟨h3, h4, h2⟩)
          obtain ⟨rfl, rfl, rfl⟩ := HEQ.out
          go_wp2_with fail
          go_meet
          refine ⟨w403_.heap.size, rfl, ?_, ?_, ?_, ?_, HD407.then (((Below.refl _ _).setCell (p := ⟨w403_.heap.size, 0, none⟩) (by simp only; omega) (.int .i64 z1)).setCell (p := ⟨w403_.heap.size, 1, none⟩) (by simp only; omega) (.int .i64 z2)) hgW⟩
          all_goals first | (go_cell; done) | omega | (simp; done) | (simp; omega)
        refine AllReadyH.cons (o := _) rfl (fun K hK => ?_) AllReadyH.nil
        have HD408 : Wk G me W.heap.size W (w402_.alloc (Obj.cells #[.int .i64 0, .int .i64 0] 23)) := HD402.then ((bal (Below.refl _ _) _).mono HD402.size) hgW
        go_simp
        refine hK.out _ _ (GA.out _ _ HD408) (fun hHeld => ?_)
        clear hK K
        try simp only [act_all]
        refine wpAnyH_ready (rs := [12]) (by kernel_rfl) (by simp) ?_
        refine AllReadyH.cons (o := _) rfl (fun K hK => ?_) AllReadyH.nil
        go_simp
        refine (rPowerW_any a2 b2 c2 d2 me G _ HO2.out.1 HO2.out.2 HD408.cell HD408.free).mono ?_
        rintro e w409_ ⟨he, hb⟩
        obtain ⟨r, hr⟩ : ∃ r, (powW me ⟨⟨a2, b2⟩, ⟨c2, d2⟩⟩) = r := ⟨_, rfl⟩
        rw [hr] at he hb
        obtain ⟨⟨n1, n2⟩, ne⟩ := r
        have HR409 := Lib.hid hr
        have HD409 : Wk G ne W.heap.size W w409_ := HD408.trans (hb.mono HD408.size)
        obtain rfl : e = .returned (.agg #[.int .i64 n1, .int .i64 n2]) := he
        have hz409 := HD409.size
        have hq409 := hb.size
        (try simp at hq409)
        have t409_0 := (hb.cells.1 (w402_.heap.size) 0 (by first | omega | (simp; done) | (simp; omega)) (by omega)).trans (by go_cell : _ = some (.int .i64 0))
        have z409_0 := (hb.cells.2 (w402_.heap.size) 0 (by first | omega | (simp; done) | (simp; omega)) (by omega)).trans (by go_cell : _ = false)
        have t409_1 := (hb.cells.1 (w402_.heap.size) 1 (by first | omega | (simp; done) | (simp; omega)) (by omega)).trans (by go_cell : _ = some (.int .i64 0))
        have z409_1 := (hb.cells.2 (w402_.heap.size) 1 (by first | omega | (simp; done) | (simp; omega)) (by omega)).trans (by go_cell : _ = false)
        have l409 : w402_.heap.size < w409_.heap.size := by omega
        clear hb hHeld hr
        refine hK.out _ _ (GA.out _ _ HD409) (fun hHeld => ?_)
        clear hK K
        try simp only [act_all]
        refine wpAnyH_ready (rs := [13]) (by kernel_rfl) (by simp) ?_
        refine AllReadyH.cons (o := _) rfl (fun K hK => ?_) AllReadyH.nil
        go_simp
        refine (rSum_any m1 m2 n1 n2 ne G _ (powW_okS2 HR402.out) (powW_okS2 HR409.out) HD409.cell HD409.free).mono ?_
        rintro e w410_ ⟨he, hb⟩
        obtain ⟨r, hr⟩ : ∃ r, (rn ne (addS ⟨m1, m2⟩ ⟨n1, n2⟩)) = r := ⟨_, rfl⟩
        rw [hr] at he hb
        obtain ⟨⟨z1, z2⟩, ze⟩ := r
        have HR410 := Lib.hid hr
        have HD410 : Wk G ze W.heap.size W w410_ := HD409.trans (hb.mono HD409.size)
        obtain rfl : e = .returned (.agg #[.int .i64 z1, .int .i64 z2]) := he
        have hz410 := HD410.size
        have hq410 := hb.size
        (try simp at hq410)
        have t410_0 := (hb.cells.1 (w402_.heap.size) 0 (by first | omega | (simp; done) | (simp; omega)) (by omega)).trans (by go_cell : _ = some (.int .i64 0))
        have z410_0 := (hb.cells.2 (w402_.heap.size) 0 (by first | omega | (simp; done) | (simp; omega)) (by omega)).trans (by go_cell : _ = false)
        have t410_1 := (hb.cells.1 (w402_.heap.size) 1 (by first | omega | (simp; done) | (simp; omega)) (by omega)).trans (by go_cell : _ = some (.int .i64 0))
        have z410_1 := (hb.cells.2 (w402_.heap.size) 1 (by first | omega | (simp; done) | (simp; omega)) (by omega)).trans (by go_cell : _ = false)
        have l410 : w402_.heap.size < w410_.heap.size := by omega
        clear hb hHeld hr
        refine hK.out _ _ (GA.out _ _ HD410) (fun hHeld => ?_)
        clear hK K
        try simp only [act_all]
        refine wpAnyH_ready (rs := [15]) (by kernel_rfl) (by simp) ?_
        refine AllReadyH.cons (o := _) rfl (fun K hK => ?_) AllReadyH.nil
        obtain ⟨_, _, _, _, _, _, _, _⟩ := GA.out _ _ HD410
        have nw : w.heap.size < w410_.heap.size := by omega
        have nx : ¬ w402_.heap.size = w.heap.size := by omega
        go_simp
        refine hK.out _ _ (by refine ⟨?_, ?_, ?_, ?_, ?_, ?_, ?_, ?_⟩ <;> go_cell) (fun hHeld => ?_)
        clear hK K
        try simp only [act_all]
        refine wpAnyH_done (by kernel_rfl) ?_ _
        have HEQ : Hid (z1 = px ∧ z2 = qx ∧ ze = xe) := Lib.hid (by have h := HX4.out; simp only [passW, HR402.out, HR409.out, HR410.out] at h; obtain ⟨h1, h2⟩ := Prod.mk.inj h; obtain ⟨h3, h4⟩ := Sp.mk.inj h1; exact ⟨h3, h4, h2⟩)
        obtain ⟨rfl, rfl, rfl⟩ := HEQ.out
        go_wp2_with fail
        go_meet
        refine ⟨w402_.heap.size, rfl, ?_, ?_, ?_, ?_, HD410.then (((Below.refl _ _).setCell (p := ⟨w402_.heap.size, 0, none⟩) (by simp only; omega) (.int .i64 z1)).setCell (p := ⟨w402_.heap.size, 1, none⟩) (by simp only; omega) (.int .i64 z2)) hgW⟩
        all_goals first | (go_cell; done) | omega | (simp; done) | (simp; omega)
      refine AllReadyH.cons (o := _) rfl (fun K hK => ?_) AllReadyH.nil
      have HD411 : Wk G 0 W.heap.size W (W.drew.alloc (Obj.cells #[.int .i64 0, .int .i64 0] 23)) := HD401.then ((bal (Below.refl _ _) _).mono HD401.size) hgW
      go_simp
      refine hK.out _ _ (GA.out _ _ HD411) (fun hHeld => ?_)
      clear hK K
      try simp only [act_all]
      refine wpAnyH_ready (rs := [6]) (by kernel_rfl) (by simp) ?_
      refine AllReadyH.cons (o := _) rfl (fun K hK => ?_) AllReadyH.nil
      go_simp
      refine (rPowerW_any a0 b0 c0 d0 0 G _ HO0.out.1 HO0.out.2 HD411.cell HD411.free).mono ?_
      rintro e w412_ ⟨he, hb⟩
      obtain ⟨r, hr⟩ : ∃ r, (powW 0 ⟨⟨a0, b0⟩, ⟨c0, d0⟩⟩) = r := ⟨_, rfl⟩
      rw [hr] at he hb
      obtain ⟨⟨m1, m2⟩, me⟩ := r
      have HR412 := Lib.hid hr
      have HD412 : Wk G me W.heap.size W w412_ := HD411.trans (hb.mono HD411.size)
      obtain rfl : e = .returned (.agg #[.int .i64 m1, .int .i64 m2]) := he
      have hz412 := HD412.size
      have hq412 := hb.size
      (try simp at hq412)
      have t412_0 := (hb.cells.1 (W.heap.size) 0 (by first | omega | (simp; done) | (simp; omega)) (by omega)).trans (by go_cell : _ = some (.int .i64 0))
      have z412_0 := (hb.cells.2 (W.heap.size) 0 (by first | omega | (simp; done) | (simp; omega)) (by omega)).trans (by go_cell : _ = false)
      have t412_1 := (hb.cells.1 (W.heap.size) 1 (by first | omega | (simp; done) | (simp; omega)) (by omega)).trans (by go_cell : _ = some (.int .i64 0))
      have z412_1 := (hb.cells.2 (W.heap.size) 1 (by first | omega | (simp; done) | (simp; omega)) (by omega)).trans (by go_cell : _ = false)
      have l412 : W.heap.size < w412_.heap.size := by omega
      clear hb hHeld hr
      refine hK.out _ _ (GA.out _ _ HD412) (fun hHeld => ?_)
      clear hK K
      try simp only [act_all]
      refine wpAnyH_ready (rs := [12]) (by kernel_rfl) (by simp) ?_
      refine AllReadyH.cons (o := _) rfl (fun K hK => ?_) AllReadyH.nil
      go_simp
      refine (rPowerW_any a2 b2 c2 d2 me G _ HO2.out.1 HO2.out.2 HD412.cell HD412.free).mono ?_
      rintro e w413_ ⟨he, hb⟩
      obtain ⟨r, hr⟩ : ∃ r, (powW me ⟨⟨a2, b2⟩, ⟨c2, d2⟩⟩) = r := ⟨_, rfl⟩
      rw [hr] at he hb
      obtain ⟨⟨n1, n2⟩, ne⟩ := r
      have HR413 := Lib.hid hr
      have HD413 : Wk G ne W.heap.size W w413_ := HD412.trans (hb.mono HD412.size)
      obtain rfl : e = .returned (.agg #[.int .i64 n1, .int .i64 n2]) := he
      have hz413 := HD413.size
      have hq413 := hb.size
      (try simp at hq413)
      have t413_0 := (hb.cells.1 (W.heap.size) 0 (by first | omega | (simp; done) | (simp; omega)) (by omega)).trans (by go_cell : _ = some (.int .i64 0))
      have z413_0 := (hb.cells.2 (W.heap.size) 0 (by first | omega | (simp; done) | (simp; omega)) (by omega)).trans (by go_cell : _ = false)
      have t413_1 := (hb.cells.1 (W.heap.size) 1 (by first | omega | (simp; done) | (simp; omega)) (by omega)).trans (by go_cell : _ = some (.int .i64 0))
      have z413_1 := (hb.cells.2 (W.heap.size) 1 (by first | omega | (simp; done) | (simp; omega)) (by omega)).trans (by go_cell : _ = false)
      have l413 : W.heap.size < w413_.heap.size := by omega
      clear hb hHeld hr
      refine hK.out _ _ (GA.out _ _ HD413) (fun hHeld => ?_)
      clear hK K
      try simp only [act_all]
      refine wpAnyH_ready (rs := [13]) (by kernel_rfl) (by simp) ?_
      refine AllReadyH.cons (o := _) rfl (fun K hK => ?_) AllReadyH.nil
      go_simp
      refine (rSum_any m1 m2 n1 n2 ne G _ (powW_okS2 HR412.out) (powW_okS2 HR413.out) HD413.cell HD413.free).mono ?_
      rintro e w414_ ⟨he, hb⟩
      obtain ⟨r, hr⟩ : ∃ r, (rn ne (addS ⟨m1, m2⟩ ⟨n1, n2⟩)) = r := ⟨_, rfl⟩
      rw [hr] at he hb
      obtain ⟨⟨z1, z2⟩, ze⟩ := r
      have HR414 := Lib.hid hr
      have HD414 : Wk G ze W.heap.size W w414_ := HD413.trans (hb.mono HD413.size)
      obtain rfl : e = .returned (.agg #[.int .i64 z1, .int .i64 z2]) := he
      have hz414 := HD414.size
      have hq414 := hb.size
      (try simp at hq414)
      have t414_0 := (hb.cells.1 (W.heap.size) 0 (by first | omega | (simp; done) | (simp; omega)) (by omega)).trans (by go_cell : _ = some (.int .i64 0))
      have z414_0 := (hb.cells.2 (W.heap.size) 0 (by first | omega | (simp; done) | (simp; omega)) (by omega)).trans (by go_cell : _ = false)
      have t414_1 := (hb.cells.1 (W.heap.size) 1 (by first | omega | (simp; done) | (simp; omega)) (by omega)).trans (by go_cell : _ = some (.int .i64 0))
      have z414_1 := (hb.cells.2 (W.heap.size) 1 (by first | omega | (simp; done) | (simp; omega)) (by omega)).trans (by go_cell : _ = false)
      have l414 : W.heap.size < w414_.heap.size := by omega
      clear hb hHeld hr
      refine hK.out _ _ (GA.out _ _ HD414) (fun hHeld => ?_)
      clear hK K
      try simp only [act_all]
      refine wpAnyH_ready (rs := [15]) (by kernel_rfl) (by simp) ?_
      refine AllReadyH.cons (o := _) rfl (fun K hK => ?_) AllReadyH.nil
      obtain ⟨_, _, _, _, _, _, _, _⟩ := GA.out _ _ HD414
      have nw : w.heap.size < w414_.heap.size := by omega
      have nx : ¬ W.heap.size = w.heap.size := by omega
      go_simp
      refine hK.out _ _ (by refine ⟨?_, ?_, ?_, ?_, ?_, ?_, ?_, ?_⟩ <;> go_cell) (fun hHeld => ?_)
      clear hK K
      try simp only [act_all]
      refine wpAnyH_done (by kernel_rfl) ?_ _
      have HEQ : Hid (z1 = px ∧ z2 = qx ∧ ze = xe) := Lib.hid (by have h := HX4.out; simp only [passW, HR412.out, HR413.out, HR414.out] at h; obtain ⟨h1, h2⟩ := Prod.mk.inj h; obtain ⟨h3, h4⟩ := Sp.mk.inj h1; exact ⟨h3, h4, h2⟩)
      obtain ⟨rfl, rfl, rfl⟩ := HEQ.out
      go_wp2_with fail
      go_meet
      refine ⟨W.heap.size, rfl, ?_, ?_, ?_, ?_, HD414.then (((Below.refl _ _).setCell (p := ⟨W.heap.size, 0, none⟩) (by simp only; omega) (.int .i64 z1)).setCell (p := ⟨W.heap.size, 1, none⟩) (by simp only; omega) (.int .i64 z2)) hgW⟩
      all_goals first | (go_cell; done) | omega | (simp; done) | (simp; omega)
    case rest =>
      obtain ⟨b6, rfl, h6, l6, c60, c61, hK⟩ := hcut
      have DV := HDD.out.trans (hK.below (by omega) HDD.out.size)
      obtain ⟨yex0, yex1, yex2, yex3, yex4, yex5, yex6, yex7, yex8, yex9, yex10, yex11, yex12, yex13, yex14, yex15, yed10, yed11, yed20, yed21, yef10, yef11, yef20, yef21⟩ := GB.out _ _ hK
      have gc := hK.cell
      have gf := hK.free
      have lG : G < wc.heap.size := by have := hK.size; omega
      clear hK GA GB HDD HDx hgW
      obtain ⟨V, hV⟩ : ∃ V, V = wc := ⟨_, rfl⟩
      subst hV
      go_upto_region 5 with fail
      have HA5 : Hid (∀ (e : Int) w', Wk G e V.heap.size V w' → w'.cell? ⟨w.heap.size, 4, none⟩ = some (.int .i64 a1) ∧ w'.cell? ⟨w.heap.size, 5, none⟩ = some (.int .i64 b1) ∧ w'.cell? ⟨w.heap.size, 6, none⟩ = some (.int .i64 c1) ∧ w'.cell? ⟨w.heap.size, 7, none⟩ = some (.int .i64 d1) ∧ w'.cell? ⟨w.heap.size, 12, none⟩ = some (.int .i64 a3) ∧ w'.cell? ⟨w.heap.size, 13, none⟩ = some (.int .i64 b3) ∧ w'.cell? ⟨w.heap.size, 14, none⟩ = some (.int .i64 c3) ∧ w'.cell? ⟨w.heap.size, 15, none⟩ = some (.int .i64 d3)) := Lib.hid (fun e w' hb => ⟨(hb.cells.1 _ 4 (by omega) (by omega)).trans yex4, (hb.cells.1 _ 5 (by omega) (by omega)).trans yex5, (hb.cells.1 _ 6 (by omega) (by omega)).trans yex6, (hb.cells.1 _ 7 (by omega) (by omega)).trans yex7, (hb.cells.1 _ 12 (by omega) (by omega)).trans yex12, (hb.cells.1 _ 13 (by omega) (by omega)).trans yex13, (hb.cells.1 _ 14 (by omega) (by omega)).trans yex14, (hb.cells.1 _ 15 (by omega) (by omega)).trans yex15⟩)
      have HB5 : Hid (∀ (e : Int) w', Wk G e V.heap.size V w' → w'.cell? ⟨w.heap.size, 0, none⟩ = some (.int .i64 a0) ∧ w'.cell? ⟨w.heap.size, 1, none⟩ = some (.int .i64 b0) ∧ w'.cell? ⟨w.heap.size, 2, none⟩ = some (.int .i64 c0) ∧ w'.cell? ⟨w.heap.size, 3, none⟩ = some (.int .i64 d0) ∧ w'.cell? ⟨w.heap.size, 4, none⟩ = some (.int .i64 a1) ∧ w'.cell? ⟨w.heap.size, 5, none⟩ = some (.int .i64 b1) ∧ w'.cell? ⟨w.heap.size, 6, none⟩ = some (.int .i64 c1) ∧ w'.cell? ⟨w.heap.size, 7, none⟩ = some (.int .i64 d1) ∧ w'.cell? ⟨w.heap.size, 8, none⟩ = some (.int .i64 a2) ∧ w'.cell? ⟨w.heap.size, 9, none⟩ = some (.int .i64 b2) ∧ w'.cell? ⟨w.heap.size, 10, none⟩ = some (.int .i64 c2) ∧ w'.cell? ⟨w.heap.size, 11, none⟩ = some (.int .i64 d2) ∧ w'.cell? ⟨w.heap.size, 12, none⟩ = some (.int .i64 a3) ∧ w'.cell? ⟨w.heap.size, 13, none⟩ = some (.int .i64 b3) ∧ w'.cell? ⟨w.heap.size, 14, none⟩ = some (.int .i64 c3) ∧ w'.cell? ⟨w.heap.size, 15, none⟩ = some (.int .i64 d3) ∧ w'.cell? ⟨w.heap.size + 1, 0, none⟩ = some (.int .i64 0) ∧ w'.cell? ⟨w.heap.size + 1, 1, none⟩ = some (.int .i64 0) ∧ w'.cell? ⟨w.heap.size + 1 + 1, 0, none⟩ = some (.int .i64 0) ∧ w'.cell? ⟨w.heap.size + 1 + 1, 1, none⟩ = some (.int .i64 0) ∧ w'.frozen? ⟨w.heap.size + 1, 0, none⟩ = false ∧ w'.frozen? ⟨w.heap.size + 1, 1, none⟩ = false ∧ w'.frozen? ⟨w.heap.size + 1 + 1, 0, none⟩ = false ∧ w'.frozen? ⟨w.heap.size + 1 + 1, 1, none⟩ = false ∧ w'.cell? ⟨b6, 0, none⟩ = some (.int .i64 px) ∧ w'.cell? ⟨b6, 1, none⟩ = some (.int .i64 qx)) := Lib.hid (fun e w' hb => ⟨(hb.cells.1 _ 0 (by omega) (by omega)).trans yex0, (hb.cells.1 _ 1 (by omega) (by omega)).trans yex1, (hb.cells.1 _ 2 (by omega) (by omega)).trans yex2, (hb.cells.1 _ 3 (by omega) (by omega)).trans yex3, (hb.cells.1 _ 4 (by omega) (by omega)).trans yex4, (hb.cells.1 _ 5 (by omega) (by omega)).trans yex5, (hb.cells.1 _ 6 (by omega) (by omega)).trans yex6, (hb.cells.1 _ 7 (by omega) (by omega)).trans yex7, (hb.cells.1 _ 8 (by omega) (by omega)).trans yex8, (hb.cells.1 _ 9 (by omega) (by omega)).trans yex9, (hb.cells.1 _ 10 (by omega) (by omega)).trans yex10, (hb.cells.1 _ 11 (by omega) (by omega)).trans yex11, (hb.cells.1 _ 12 (by omega) (by omega)).trans yex12, (hb.cells.1 _ 13 (by omega) (by omega)).trans yex13, (hb.cells.1 _ 14 (by omega) (by omega)).trans yex14, (hb.cells.1 _ 15 (by omega) (by omega)).trans yex15, (hb.cells.1 _ 0 (by omega) (by omega)).trans yed10, (hb.cells.1 _ 1 (by omega) (by omega)).trans yed11, (hb.cells.1 _ 0 (by omega) (by omega)).trans yed20, (hb.cells.1 _ 1 (by omega) (by omega)).trans yed21, (hb.cells.2 _ 0 (by omega) (by omega)).trans yef10, (hb.cells.2 _ 1 (by omega) (by omega)).trans yef11, (hb.cells.2 _ 0 (by omega) (by omega)).trans yef20, (hb.cells.2 _ 1 (by omega) (by omega)).trans yef21, (hb.cells.1 _ 0 (by omega) (by omega)).trans c60, (hb.cells.1 _ 1 (by omega) (by omega)).trans c61⟩)
      have HDx : Wk G xe V.heap.size V V := ⟨rfl, rfl, rfl, Nat.le_refl _, fun _ _ _ => rfl, gc, gf⟩
      have hgW : G < V.heap.size := by omega
      have HDD := Lib.hid DV
      clear DV gc gf yex0 yex1 yex2 yex3 yex4 yex5 yex6 yex7 yex8 yex9 yex10 yex11 yex12 yex13 yex14 yex15 yed10 yed11 yed20 yed21 yef10 yef11 yef20 yef21 c60 c61
      obtain ⟨py, qy, ye, hx⟩ : ∃ x1 x2 xx, passW xe ⟨⟨a1, b1⟩, ⟨c1, d1⟩⟩ ⟨⟨a3, b3⟩, ⟨c3, d3⟩⟩ = (⟨x1, x2⟩, xx) := ⟨_, _, _, rfl⟩
      have HX5 := Lib.hid hx
      clear hx
      go_cut [7] (fun vx wx => ∃ bx : Nat, vx = .pointer (some ⟨bx, 0, none⟩) ∧ V.heap.size ≤ bx ∧ bx < wx.heap.size ∧ wx.cell? ⟨bx, 0, none⟩ = some (.int .i64 py) ∧ wx.cell? ⟨bx, 1, none⟩ = some (.int .i64 qy) ∧ Wk G ye V.heap.size V wx)
      case first =>
        have HD501 : Wk G xe V.heap.size V V.drew := HDx.then ((Below.refl _ _).drew.mono HDx.size) hgW
        refine wp_region_held_drew (S := fun w' => w'.cell? ⟨w.heap.size, 4, none⟩ = some (.int .i64 a1) ∧ w'.cell? ⟨w.heap.size, 5, none⟩ = some (.int .i64 b1) ∧ w'.cell? ⟨w.heap.size, 6, none⟩ = some (.int .i64 c1) ∧ w'.cell? ⟨w.heap.size, 7, none⟩ = some (.int .i64 d1) ∧ w'.cell? ⟨w.heap.size, 12, none⟩ = some (.int .i64 a3) ∧ w'.cell? ⟨w.heap.size, 13, none⟩ = some (.int .i64 b3) ∧ w'.cell? ⟨w.heap.size, 14, none⟩ = some (.int .i64 c3) ∧ w'.cell? ⟨w.heap.size, 15, none⟩ = some (.int .i64 d3)) (by kernel_rfl) (HA5.out _ _ HD501) (fun hHeld => ?_)
        refine wpAnyH_take (i := 0) (oi := _) (v := ?_) rfl (by kernel_rfl) (by kernel_rfl) (by kernel_rfl) (fun _ _ _ h => h) (Or.inl ⟨by rfl, ?_⟩) (by assumption) ?_
        rotate_left
        · intro w hSw; obtain ⟨_, _, _, _, _, _, _, _⟩ := hSw; go_simp; (try with_reducible rfl)
        try change wpAnyH _ _ _ _ _ _ _ (Act.put _ (some 29) _) _
        try simp only [act_all]
        refine wpAnyH_take (i := 1) (oi := _) (v := ?_) rfl (by kernel_rfl) (by kernel_rfl) (by kernel_rfl) (fun _ _ _ h => h) (Or.inl ⟨by rfl, ?_⟩) (by assumption) ?_
        rotate_left
        · intro w hSw; obtain ⟨_, _, _, _, _, _, _, _⟩ := hSw; go_simp; (try with_reducible rfl)
        try change wpAnyH _ _ _ _ _ _ _ (Act.put _ (some 30) _) _
        try simp only [act_all]
        refine wpAnyH_take (i := 2) (oi := _) (v := ?_) rfl (by kernel_rfl) (by kernel_rfl) (by kernel_rfl) (fun _ _ _ h => h) (Or.inl ⟨by rfl, ?_⟩) (by assumption) ?_
        rotate_left
        · intro w hSw; obtain ⟨_, _, _, _, _, _, _, _⟩ := hSw; go_simp; (try with_reducible rfl)
        try change wpAnyH _ _ _ _ _ _ _ (Act.put _ (some 31) _) _
        try simp only [act_all]
        refine wpAnyH_take (i := 3) (oi := _) (v := ?_) rfl (by kernel_rfl) (by kernel_rfl) (by kernel_rfl) (fun _ _ _ h => h) (Or.inl ⟨by rfl, ?_⟩) (by assumption) ?_
        rotate_left
        · intro w hSw; obtain ⟨_, _, _, _, _, _, _, _⟩ := hSw; go_simp; (try with_reducible rfl)
        try change wpAnyH _ _ _ _ _ _ _ (Act.put _ (some 32) _) _
        try simp only [act_all]
        refine wpAnyH_take (i := 4) (oi := _) (v := ?_) rfl (by kernel_rfl) (by kernel_rfl) (by kernel_rfl) (fun _ _ _ h => h) (Or.inl ⟨by rfl, ?_⟩) (by assumption) ?_
        rotate_left
        · intro w hSw; obtain ⟨_, _, _, _, _, _, _, _⟩ := hSw; go_simp; (try with_reducible rfl)
        try change wpAnyH _ _ _ _ _ _ _ (Act.put _ (some 33) _) _
        try simp only [act_all]
        refine wpAnyH_take (i := 5) (oi := _) (v := ?_) rfl (by kernel_rfl) (by kernel_rfl) (by kernel_rfl) (fun _ _ _ h => h) (Or.inl ⟨by rfl, ?_⟩) (by assumption) ?_
        rotate_left
        · intro w hSw; obtain ⟨_, _, _, _, _, _, _, _⟩ := hSw; go_simp; (try with_reducible rfl)
        try change wpAnyH _ _ _ _ _ _ _ (Act.put _ (some 34) _) _
        try simp only [act_all]
        refine wpAnyH_take (i := 7) (oi := _) (v := ?_) rfl (by kernel_rfl) (by kernel_rfl) (by kernel_rfl) (fun _ _ _ h => h) (Or.inl ⟨by rfl, ?_⟩) (by assumption) ?_
        rotate_left
        · intro w hSw; obtain ⟨_, _, _, _, _, _, _, _⟩ := hSw; go_simp; (try with_reducible rfl)
        try change wpAnyH _ _ _ _ _ _ _ (Act.put _ (some 36) _) _
        try simp only [act_all]
        refine wpAnyH_take (i := 8) (oi := _) (v := ?_) rfl (by kernel_rfl) (by kernel_rfl) (by kernel_rfl) (fun _ _ _ h => h) (Or.inl ⟨by rfl, ?_⟩) (by assumption) ?_
        rotate_left
        · intro w hSw; obtain ⟨_, _, _, _, _, _, _, _⟩ := hSw; go_simp; (try with_reducible rfl)
        try change wpAnyH _ _ _ _ _ _ _ (Act.put _ (some 37) _) _
        try simp only [act_all]
        refine wpAnyH_take (i := 9) (oi := _) (v := ?_) rfl (by kernel_rfl) (by kernel_rfl) (by kernel_rfl) (fun _ _ _ h => h) (Or.inl ⟨by rfl, ?_⟩) (by assumption) ?_
        rotate_left
        · intro w hSw; obtain ⟨_, _, _, _, _, _, _, _⟩ := hSw; go_simp; (try with_reducible rfl)
        try change wpAnyH _ _ _ _ _ _ _ (Act.put _ (some 38) _) _
        try simp only [act_all]
        refine wpAnyH_take (i := 10) (oi := _) (v := ?_) rfl (by kernel_rfl) (by kernel_rfl) (by kernel_rfl) (fun _ _ _ h => h) (Or.inl ⟨by rfl, ?_⟩) (by assumption) ?_
        rotate_left
        · intro w hSw; obtain ⟨_, _, _, _, _, _, _, _⟩ := hSw; go_simp; (try with_reducible rfl)
        try change wpAnyH _ _ _ _ _ _ _ (Act.put _ (some 39) _) _
        try simp only [act_all]
        refine wpAnyH_take (i := 11) (oi := _) (v := ?_) rfl (by kernel_rfl) (by kernel_rfl) (by kernel_rfl) (fun _ _ _ h => h) (Or.inl ⟨by rfl, ?_⟩) (by assumption) ?_
        rotate_left
        · intro w hSw; obtain ⟨_, _, _, _, _, _, _, _⟩ := hSw; go_simp; (try with_reducible rfl)
        try change wpAnyH _ _ _ _ _ _ _ (Act.put _ (some 40) _) _
        try simp only [act_all]
        refine wpAnyH_ready (rs := [6, 14]) (by kernel_rfl) (by simp) ?_
        refine AllReadyH.cons (o := _) rfl (fun K hK => ?_) ?_
        · go_simp
          refine (rPowerW_any a1 b1 c1 d1 xe G _ HO1.out.1 HO1.out.2 HD501.cell HD501.free).mono ?_
          rintro e w502_ ⟨he, hb⟩
          obtain ⟨r, hr⟩ : ∃ r, (powW xe ⟨⟨a1, b1⟩, ⟨c1, d1⟩⟩) = r := ⟨_, rfl⟩
          rw [hr] at he hb
          obtain ⟨⟨m1, m2⟩, me⟩ := r
          have HR502 := Lib.hid hr
          have HD502 : Wk G me V.heap.size V w502_ := HD501.trans (hb.mono HD501.size)
          obtain rfl : e = .returned (.agg #[.int .i64 m1, .int .i64 m2]) := he
          have hz502 := HD502.size
          have hq502 := hb.size
          (try simp at hq502)
          clear hb hHeld hr
          refine hK.out _ _ (HA5.out _ _ HD502) (fun hHeld => ?_)
          clear hK K
          try simp only [act_all]
          refine wpAnyH_ready (rs := [12, 14]) (by kernel_rfl) (by simp) ?_
          refine AllReadyH.cons (o := _) rfl (fun K hK => ?_) ?_
          · go_simp
            refine (rPowerW_any a3 b3 c3 d3 me G _ HO3.out.1 HO3.out.2 HD502.cell HD502.free).mono ?_
            rintro e w503_ ⟨he, hb⟩
            obtain ⟨r, hr⟩ : ∃ r, (powW me ⟨⟨a3, b3⟩, ⟨c3, d3⟩⟩) = r := ⟨_, rfl⟩
            rw [hr] at he hb
            obtain ⟨⟨n1, n2⟩, ne⟩ := r
            have HR503 := Lib.hid hr
            have HD503 : Wk G ne V.heap.size V w503_ := HD502.trans (hb.mono HD502.size)
            obtain rfl : e = .returned (.agg #[.int .i64 n1, .int .i64 n2]) := he
            have hz503 := HD503.size
            have hq503 := hb.size
            (try simp at hq503)
            clear hb hHeld hr
            refine hK.out _ _ (HA5.out _ _ HD503) (fun hHeld => ?_)
            clear hK K
            try simp only [act_all]
            refine wpAnyH_ready (rs := [13, 14]) (by kernel_rfl) (by simp) ?_
            refine AllReadyH.cons (o := _) rfl (fun K hK => ?_) ?_
            · go_simp
              refine (rSum_any m1 m2 n1 n2 ne G _ (powW_okS2 HR502.out) (powW_okS2 HR503.out) HD503.cell HD503.free).mono ?_
              rintro e w504_ ⟨he, hb⟩
              obtain ⟨r, hr⟩ : ∃ r, (rn ne (addS ⟨m1, m2⟩ ⟨n1, n2⟩)) = r := ⟨_, rfl⟩
              rw [hr] at he hb
              obtain ⟨⟨z1, z2⟩, ze⟩ := r
              have HR504 := Lib.hid hr
              have HD504 : Wk G ze V.heap.size V w504_ := HD503.trans (hb.mono HD503.size)
              obtain rfl : e = .returned (.agg #[.int .i64 z1, .int .i64 z2]) := he
              have hz504 := HD504.size
              have hq504 := hb.size
              (try simp at hq504)
              clear hb hHeld hr
              refine hK.out _ _ (HA5.out _ _ HD504) (fun hHeld => ?_)
              clear hK K
              try simp only [act_all]
              refine wpAnyH_ready (rs := [14]) (by kernel_rfl) (by simp) ?_
              refine AllReadyH.cons (o := _) rfl (fun K hK => ?_) AllReadyH.nil
              have HD505 : Wk G ze V.heap.size V (w504_.alloc (Obj.cells #[.int .i64 0, .int .i64 0] 23)) := HD504.then ((bal (Below.refl _ _) _).mono HD504.size) hgW
              go_simp
              refine hK.out _ _ (HA5.out _ _ HD505) (fun hHeld => ?_)
              clear hK K
              try simp only [act_all]
              refine wpAnyH_ready (rs := [15]) (by kernel_rfl) (by simp) ?_
              refine AllReadyH.cons (o := _) rfl (fun K hK => ?_) AllReadyH.nil
              obtain ⟨_, _, _, _, _, _, _, _⟩ := HA5.out _ _ HD505
              have nw : w.heap.size < w504_.heap.size := by omega
              have nx : ¬ w504_.heap.size = w.heap.size := by omega
              go_simp
              refine hK.out _ _ (by refine ⟨?_, ?_, ?_, ?_, ?_, ?_, ?_, ?_⟩ <;> go_cell) (fun hHeld => ?_)
              clear hK K
              try simp only [act_all]
              refine wpAnyH_done (by kernel_rfl) ?_ _
              have HEQ : Hid (z1 = py ∧ z2 = qy ∧ ze = ye) := Lib.hid (by have h := HX5.out; simp only [passW, HR502.out, HR503.out, HR504.out] at h; obtain ⟨h1, h2⟩ := Prod.mk.inj h; obtain ⟨h3, h4⟩ := Sp.mk.inj h1; exact ⟨h3, h4, h2⟩)
              obtain ⟨rfl, rfl, rfl⟩ := HEQ.out
              go_wp2_with fail
              go_meet
              refine ⟨w504_.heap.size, rfl, ?_, ?_, ?_, ?_, HD504.then ((bal (Below.refl _ _) _).mono HD504.size) hgW⟩
              all_goals first | (go_cell; done) | omega | (simp; done) | (simp; omega)
            refine AllReadyH.cons (o := _) rfl (fun K hK => ?_) AllReadyH.nil
            have HD506 : Wk G ne V.heap.size V (w503_.alloc (Obj.cells #[.int .i64 0, .int .i64 0] 23)) := HD503.then ((bal (Below.refl _ _) _).mono HD503.size) hgW
            go_simp
            refine hK.out _ _ (HA5.out _ _ HD506) (fun hHeld => ?_)
            clear hK K
            try simp only [act_all]
            refine wpAnyH_ready (rs := [13]) (by kernel_rfl) (by simp) ?_
            refine AllReadyH.cons (o := _) rfl (fun K hK => ?_) AllReadyH.nil
            go_simp
            refine (rSum_any m1 m2 n1 n2 ne G _ (powW_okS2 HR502.out) (powW_okS2 HR503.out) HD506.cell HD506.free).mono ?_
            rintro e w507_ ⟨he, hb⟩
            obtain ⟨r, hr⟩ : ∃ r, (rn ne (addS ⟨m1, m2⟩ ⟨n1, n2⟩)) = r := ⟨_, rfl⟩
            rw [hr] at he hb
            obtain ⟨⟨z1, z2⟩, ze⟩ := r
            have HR507 := Lib.hid hr
            have HD507 : Wk G ze V.heap.size V w507_ := HD506.trans (hb.mono HD506.size)
            obtain rfl : e = .returned (.agg #[.int .i64 z1, .int .i64 z2]) := he
            have hz507 := HD507.size
            have hq507 := hb.size
            (try simp at hq507)
            have t507_0 := (hb.cells.1 (w503_.heap.size) 0 (by first | omega | (simp; done) | (simp; omega)) (by omega)).trans (by go_cell : _ = some (.int .i64 0))
            have z507_0 := (hb.cells.2 (w503_.heap.size) 0 (by first | omega | (simp; done) | (simp; omega)) (by omega)).trans (by go_cell : _ = false)
            have t507_1 := (hb.cells.1 (w503_.heap.size) 1 (by first | omega | (simp; done) | (simp; omega)) (by omega)).trans (by go_cell : _ = some (.int .i64 0))
            have z507_1 := (hb.cells.2 (w503_.heap.size) 1 (by first | omega | (simp; done) | (simp; omega)) (by omega)).trans (by go_cell : _ = false)
            have l507 : w503_.heap.size < w507_.heap.size := by omega
            clear hb hHeld hr
            refine hK.out _ _ (HA5.out _ _ HD507) (fun hHeld => ?_)
            clear hK K
            try simp only [act_all]
            refine wpAnyH_ready (rs := [15]) (by kernel_rfl) (by simp) ?_
            refine AllReadyH.cons (o := _) rfl (fun K hK => ?_) AllReadyH.nil
            obtain ⟨_, _, _, _, _, _, _, _⟩ := HA5.out _ _ HD507
            have nw : w.heap.size < w507_.heap.size := by omega
            have nx : ¬ w503_.heap.size = w.heap.size := by omega
            go_simp
            refine hK.out _ _ (by refine ⟨?_, ?_, ?_, ?_, ?_, ?_, ?_, ?_⟩ <;> go_cell) (fun hHeld => ?_)
            clear hK K
            try simp only [act_all]
            refine wpAnyH_done (by kernel_rfl) ?_ _
            have HEQ : Hid (z1 = py ∧ z2 = qy ∧ ze = ye) := Lib.hid (by have h := HX5.out; simp only [passW, HR502.out, HR503.out, HR507.out] at h; obtain ⟨h1, h2⟩ := Prod.mk.inj h; obtain ⟨h3, h4⟩ := Sp.mk.inj h1; exact ⟨h3, h4, h2⟩)
            obtain ⟨rfl, rfl, rfl⟩ := HEQ.out
            go_wp2_with fail
            go_meet
            refine ⟨w503_.heap.size, rfl, ?_, ?_, ?_, ?_, HD507.then (((Below.refl _ _).setCell (p := ⟨w503_.heap.size, 0, none⟩) (by simp only; omega) (.int .i64 z1)).setCell (p := ⟨w503_.heap.size, 1, none⟩) (by simp only; omega) (.int .i64 z2)) hgW⟩
            all_goals first | (go_cell; done) | omega | (simp; done) | (simp; omega)
          refine AllReadyH.cons (o := _) rfl (fun K hK => ?_) AllReadyH.nil
          have HD508 : Wk G me V.heap.size V (w502_.alloc (Obj.cells #[.int .i64 0, .int .i64 0] 23)) := HD502.then ((bal (Below.refl _ _) _).mono HD502.size) hgW
          go_simp
          refine hK.out _ _ (HA5.out _ _ HD508) (fun hHeld => ?_)
          clear hK K
          try simp only [act_all]
          refine wpAnyH_ready (rs := [12]) (by kernel_rfl) (by simp) ?_
          refine AllReadyH.cons (o := _) rfl (fun K hK => ?_) AllReadyH.nil
          go_simp
          refine (rPowerW_any a3 b3 c3 d3 me G _ HO3.out.1 HO3.out.2 HD508.cell HD508.free).mono ?_
          rintro e w509_ ⟨he, hb⟩
          obtain ⟨r, hr⟩ : ∃ r, (powW me ⟨⟨a3, b3⟩, ⟨c3, d3⟩⟩) = r := ⟨_, rfl⟩
          rw [hr] at he hb
          obtain ⟨⟨n1, n2⟩, ne⟩ := r
          have HR509 := Lib.hid hr
          have HD509 : Wk G ne V.heap.size V w509_ := HD508.trans (hb.mono HD508.size)
          obtain rfl : e = .returned (.agg #[.int .i64 n1, .int .i64 n2]) := he
          have hz509 := HD509.size
          have hq509 := hb.size
          (try simp at hq509)
          have t509_0 := (hb.cells.1 (w502_.heap.size) 0 (by first | omega | (simp; done) | (simp; omega)) (by omega)).trans (by go_cell : _ = some (.int .i64 0))
          have z509_0 := (hb.cells.2 (w502_.heap.size) 0 (by first | omega | (simp; done) | (simp; omega)) (by omega)).trans (by go_cell : _ = false)
          have t509_1 := (hb.cells.1 (w502_.heap.size) 1 (by first | omega | (simp; done) | (simp; omega)) (by omega)).trans (by go_cell : _ = some (.int .i64 0))
          have z509_1 := (hb.cells.2 (w502_.heap.size) 1 (by first | omega | (simp; done) | (simp; omega)) (by omega)).trans (by go_cell : _ = false)
          have l509 : w502_.heap.size < w509_.heap.size := by omega
          clear hb hHeld hr
          refine hK.out _ _ (HA5.out _ _ HD509) (fun hHeld => ?_)
          clear hK K
          try simp only [act_all]
          refine wpAnyH_ready (rs := [13]) (by kernel_rfl) (by simp) ?_
          refine AllReadyH.cons (o := _) rfl (fun K hK => ?_) AllReadyH.nil
          go_simp
          refine (rSum_any m1 m2 n1 n2 ne G _ (powW_okS2 HR502.out) (powW_okS2 HR509.out) HD509.cell HD509.free).mono ?_
          rintro e w510_ ⟨he, hb⟩
          obtain ⟨r, hr⟩ : ∃ r, (rn ne (addS ⟨m1, m2⟩ ⟨n1, n2⟩)) = r := ⟨_, rfl⟩
          rw [hr] at he hb
          obtain ⟨⟨z1, z2⟩, ze⟩ := r
          have HR510 := Lib.hid hr
          have HD510 : Wk G ze V.heap.size V w510_ := HD509.trans (hb.mono HD509.size)
          obtain rfl : e = .returned (.agg #[.int .i64 z1, .int .i64 z2]) := he
          have hz510 := HD510.size
          have hq510 := hb.size
          (try simp at hq510)
          have t510_0 := (hb.cells.1 (w502_.heap.size) 0 (by first | omega | (simp; done) | (simp; omega)) (by omega)).trans (by go_cell : _ = some (.int .i64 0))
          have z510_0 := (hb.cells.2 (w502_.heap.size) 0 (by first | omega | (simp; done) | (simp; omega)) (by omega)).trans (by go_cell : _ = false)
          have t510_1 := (hb.cells.1 (w502_.heap.size) 1 (by first | omega | (simp; done) | (simp; omega)) (by omega)).trans (by go_cell : _ = some (.int .i64 0))
          have z510_1 := (hb.cells.2 (w502_.heap.size) 1 (by first | omega | (simp; done) | (simp; omega)) (by omega)).trans (by go_cell : _ = false)
          have l510 : w502_.heap.size < w510_.heap.size := by omega
          clear hb hHeld hr
          refine hK.out _ _ (HA5.out _ _ HD510) (fun hHeld => ?_)
          clear hK K
          try simp only [act_all]
          refine wpAnyH_ready (rs := [15]) (by kernel_rfl) (by simp) ?_
          refine AllReadyH.cons (o := _) rfl (fun K hK => ?_) AllReadyH.nil
          obtain ⟨_, _, _, _, _, _, _, _⟩ := HA5.out _ _ HD510
          have nw : w.heap.size < w510_.heap.size := by omega
          have nx : ¬ w502_.heap.size = w.heap.size := by omega
          go_simp
          refine hK.out _ _ (by refine ⟨?_, ?_, ?_, ?_, ?_, ?_, ?_, ?_⟩ <;> go_cell) (fun hHeld => ?_)
          clear hK K
          try simp only [act_all]
          refine wpAnyH_done (by kernel_rfl) ?_ _
          have HEQ : Hid (z1 = py ∧ z2 = qy ∧ ze = ye) := Lib.hid (by have h := HX5.out; simp only [passW, HR502.out, HR509.out, HR510.out] at h; obtain ⟨h1, h2⟩ := Prod.mk.inj h; obtain ⟨h3, h4⟩ := Sp.mk.inj h1; exact ⟨h3, h4, h2⟩)
          obtain ⟨rfl, rfl, rfl⟩ := HEQ.out
          go_wp2_with fail
          go_meet
          refine ⟨w502_.heap.size, rfl, ?_, ?_, ?_, ?_, HD510.then (((Below.refl _ _).setCell (p := ⟨w502_.heap.size, 0, none⟩) (by simp only; omega) (.int .i64 z1)).setCell (p := ⟨w502_.heap.size, 1, none⟩) (by simp only; omega) (.int .i64 z2)) hgW⟩
          all_goals first | (go_cell; done) | omega | (simp; done) | (simp; omega)
        refine AllReadyH.cons (o := _) rfl (fun K hK => ?_) AllReadyH.nil
        have HD511 : Wk G xe V.heap.size V (V.drew.alloc (Obj.cells #[.int .i64 0, .int .i64 0] 23)) := HD501.then ((bal (Below.refl _ _) _).mono HD501.size) hgW
        go_simp
        refine hK.out _ _ (HA5.out _ _ HD511) (fun hHeld => ?_)
        clear hK K
        try simp only [act_all]
        refine wpAnyH_ready (rs := [6]) (by kernel_rfl) (by simp) ?_
        refine AllReadyH.cons (o := _) rfl (fun K hK => ?_) AllReadyH.nil
        go_simp
        refine (rPowerW_any a1 b1 c1 d1 xe G _ HO1.out.1 HO1.out.2 HD511.cell HD511.free).mono ?_
        rintro e w512_ ⟨he, hb⟩
        obtain ⟨r, hr⟩ : ∃ r, (powW xe ⟨⟨a1, b1⟩, ⟨c1, d1⟩⟩) = r := ⟨_, rfl⟩
        rw [hr] at he hb
        obtain ⟨⟨m1, m2⟩, me⟩ := r
        have HR512 := Lib.hid hr
        have HD512 : Wk G me V.heap.size V w512_ := HD511.trans (hb.mono HD511.size)
        obtain rfl : e = .returned (.agg #[.int .i64 m1, .int .i64 m2]) := he
        have hz512 := HD512.size
        have hq512 := hb.size
        (try simp at hq512)
        have t512_0 := (hb.cells.1 (V.heap.size) 0 (by first | omega | (simp; done) | (simp; omega)) (by omega)).trans (by go_cell : _ = some (.int .i64 0))
        have z512_0 := (hb.cells.2 (V.heap.size) 0 (by first | omega | (simp; done) | (simp; omega)) (by omega)).trans (by go_cell : _ = false)
        have t512_1 := (hb.cells.1 (V.heap.size) 1 (by first | omega | (simp; done) | (simp; omega)) (by omega)).trans (by go_cell : _ = some (.int .i64 0))
        have z512_1 := (hb.cells.2 (V.heap.size) 1 (by first | omega | (simp; done) | (simp; omega)) (by omega)).trans (by go_cell : _ = false)
        have l512 : V.heap.size < w512_.heap.size := by omega
        clear hb hHeld hr
        refine hK.out _ _ (HA5.out _ _ HD512) (fun hHeld => ?_)
        clear hK K
        try simp only [act_all]
        refine wpAnyH_ready (rs := [12]) (by kernel_rfl) (by simp) ?_
        refine AllReadyH.cons (o := _) rfl (fun K hK => ?_) AllReadyH.nil
        go_simp
        refine (rPowerW_any a3 b3 c3 d3 me G _ HO3.out.1 HO3.out.2 HD512.cell HD512.free).mono ?_
        rintro e w513_ ⟨he, hb⟩
        obtain ⟨r, hr⟩ : ∃ r, (powW me ⟨⟨a3, b3⟩, ⟨c3, d3⟩⟩) = r := ⟨_, rfl⟩
        rw [hr] at he hb
        obtain ⟨⟨n1, n2⟩, ne⟩ := r
        have HR513 := Lib.hid hr
        have HD513 : Wk G ne V.heap.size V w513_ := HD512.trans (hb.mono HD512.size)
        obtain rfl : e = .returned (.agg #[.int .i64 n1, .int .i64 n2]) := he
        have hz513 := HD513.size
        have hq513 := hb.size
        (try simp at hq513)
        have t513_0 := (hb.cells.1 (V.heap.size) 0 (by first | omega | (simp; done) | (simp; omega)) (by omega)).trans (by go_cell : _ = some (.int .i64 0))
        have z513_0 := (hb.cells.2 (V.heap.size) 0 (by first | omega | (simp; done) | (simp; omega)) (by omega)).trans (by go_cell : _ = false)
        have t513_1 := (hb.cells.1 (V.heap.size) 1 (by first | omega | (simp; done) | (simp; omega)) (by omega)).trans (by go_cell : _ = some (.int .i64 0))
        have z513_1 := (hb.cells.2 (V.heap.size) 1 (by first | omega | (simp; done) | (simp; omega)) (by omega)).trans (by go_cell : _ = false)
        have l513 : V.heap.size < w513_.heap.size := by omega
        clear hb hHeld hr
        refine hK.out _ _ (HA5.out _ _ HD513) (fun hHeld => ?_)
        clear hK K
        try simp only [act_all]
        refine wpAnyH_ready (rs := [13]) (by kernel_rfl) (by simp) ?_
        refine AllReadyH.cons (o := _) rfl (fun K hK => ?_) AllReadyH.nil
        go_simp
        refine (rSum_any m1 m2 n1 n2 ne G _ (powW_okS2 HR512.out) (powW_okS2 HR513.out) HD513.cell HD513.free).mono ?_
        rintro e w514_ ⟨he, hb⟩
        obtain ⟨r, hr⟩ : ∃ r, (rn ne (addS ⟨m1, m2⟩ ⟨n1, n2⟩)) = r := ⟨_, rfl⟩
        rw [hr] at he hb
        obtain ⟨⟨z1, z2⟩, ze⟩ := r
        have HR514 := Lib.hid hr
        have HD514 : Wk G ze V.heap.size V w514_ := HD513.trans (hb.mono HD513.size)
        obtain rfl : e = .returned (.agg #[.int .i64 z1, .int .i64 z2]) := he
        have hz514 := HD514.size
        have hq514 := hb.size
        (try simp at hq514)
        have t514_0 := (hb.cells.1 (V.heap.size) 0 (by first | omega | (simp; done) | (simp; omega)) (by omega)).trans (by go_cell : _ = some (.int .i64 0))
        have z514_0 := (hb.cells.2 (V.heap.size) 0 (by first | omega | (simp; done) | (simp; omega)) (by omega)).trans (by go_cell : _ = false)
        have t514_1 := (hb.cells.1 (V.heap.size) 1 (by first | omega | (simp; done) | (simp; omega)) (by omega)).trans (by go_cell : _ = some (.int .i64 0))
        have z514_1 := (hb.cells.2 (V.heap.size) 1 (by first | omega | (simp; done) | (simp; omega)) (by omega)).trans (by go_cell : _ = false)
        have l514 : V.heap.size < w514_.heap.size := by omega
        clear hb hHeld hr
        refine hK.out _ _ (HA5.out _ _ HD514) (fun hHeld => ?_)
        clear hK K
        try simp only [act_all]
        refine wpAnyH_ready (rs := [15]) (by kernel_rfl) (by simp) ?_
        refine AllReadyH.cons (o := _) rfl (fun K hK => ?_) AllReadyH.nil
        obtain ⟨_, _, _, _, _, _, _, _⟩ := HA5.out _ _ HD514
        have nw : w.heap.size < w514_.heap.size := by omega
        have nx : ¬ V.heap.size = w.heap.size := by omega
        go_simp
        refine hK.out _ _ (by refine ⟨?_, ?_, ?_, ?_, ?_, ?_, ?_, ?_⟩ <;> go_cell) (fun hHeld => ?_)
        clear hK K
        try simp only [act_all]
        refine wpAnyH_done (by kernel_rfl) ?_ _
        have HEQ : Hid (z1 = py ∧ z2 = qy ∧ ze = ye) := Lib.hid (by have h := HX5.out; simp only [passW, HR512.out, HR513.out, HR514.out] at h; obtain ⟨h1, h2⟩ := Prod.mk.inj h; obtain ⟨h3, h4⟩ := Sp.mk.inj h1; exact ⟨h3, h4, h2⟩)
        obtain ⟨rfl, rfl, rfl⟩ := HEQ.out
        go_wp2_with fail
        go_meet
        refine ⟨V.heap.size, rfl, ?_, ?_, ?_, ?_, HD514.then (((Below.refl _ _).setCell (p := ⟨V.heap.size, 0, none⟩) (by simp only; omega) (.int .i64 z1)).setCell (p := ⟨V.heap.size, 1, none⟩) (by simp only; omega) (.int .i64 z2)) hgW⟩
        all_goals first | (go_cell; done) | omega | (simp; done) | (simp; omega)
      case rest =>
        obtain ⟨b7, rfl, h7, l7, c70, c71, hK⟩ := hcut
        have DX := HDD.out.trans (hK.below (by omega) HDD.out.size)
        obtain ⟨_, _, _, _, _, _, _, _, _, _, _, _, _, _, _, _, yed10, yed11, yed20, yed21, yef10, yef11, yef20, yef21, c60, c61⟩ := HB5.out _ _ hK
        have gc := hK.cell
        have gf := hK.free
        have lG : G < wc.heap.size := by have := hK.size; omega
        have l6' : b6 < wc.heap.size := by have := hK.size; omega
        clear hK HA5 HB5 HDD HDx hgW
        have HF := Lib.hid (pas_fin ⟨⟨a0, b0⟩, ⟨c0, d0⟩⟩ ⟨⟨a1, b1⟩, ⟨c1, d1⟩⟩ ⟨⟨a2, b2⟩, ⟨c2, d2⟩⟩ ⟨⟨a3, b3⟩, ⟨c3, d3⟩⟩)
        have HFX : Hid (OutP SP = if ye = 0 then .returned (.tuple #[.agg #[.int .i64 px, .int .i64 qx], .agg #[.int .i64 py, .int .i64 qy], .int .i64 0]) else .returned (.tuple #[.agg #[.int .i64 0, .int .i64 0], .agg #[.int .i64 0, .int .i64 0], .int .i64 ye])) := Lib.hid (by rw [← HN.out, HF.out, HX4.out]; simp only; rw [HX5.out])
        have t1 : w.heap.size + 1 + 1 < wc.heap.size := by omega
        have t2 : w.heap.size + 1 < wc.heap.size := by omega
        have t3 : ¬ w.heap.size + 1 = w.heap.size + 1 + 1 := by omega
        have t4 : ¬ w.heap.size + 1 + 1 = w.heap.size + 1 := by omega
        have t5a : ¬ G = w.heap.size + 1 := by omega
        have t5b : ¬ G = w.heap.size + 1 + 1 := by omega
        have t6a : ¬ b6 = w.heap.size + 1 := by omega
        have t6b : ¬ b6 = w.heap.size + 1 + 1 := by omega
        have t7a : ¬ b7 = w.heap.size + 1 := by omega
        have t7b : ¬ b7 = w.heap.size + 1 + 1 := by omega
        by_cases hy : ye = 0
        · subst hy
          have HFR : Hid (OutP SP = .returned (.tuple #[.agg #[.int .i64 px, .int .i64 qx], .agg #[.int .i64 py, .int .i64 qy], .int .i64 0])) := Lib.hid (by rw [HFX.out]; exact if_pos rfl)
          go_upto_region 8 with fail
          refine wp_region_held_drew (S := fun w' => w'.cell? ⟨b6, 0, none⟩ = some (.int .i64 px) ∧ w'.cell? ⟨b6, 1, none⟩ = some (.int .i64 qx) ∧ w'.cell? ⟨b7, 0, none⟩ = some (.int .i64 py) ∧ w'.cell? ⟨b7, 1, none⟩ = some (.int .i64 qy)) (by kernel_rfl) ⟨c60, c61, c70, c71⟩ (fun hHeld => ?_)
          refine wpAnyH_take (i := 0) (oi := _) (v := ?_) rfl (by kernel_rfl) (by kernel_rfl) (by kernel_rfl) (fun _ _ _ h => h) (Or.inl ⟨by rfl, ?_⟩) (by assumption) ?_
          rotate_left
          · intro w hSw; obtain ⟨_, _, _, _⟩ := hSw; go_simp; (try with_reducible rfl)
          try change wpAnyH _ _ _ _ _ _ _ (Act.put _ (some 54) _) _
          try simp only [act_all]
          refine wpAnyH_take (i := 1) (oi := _) (v := ?_) rfl (by kernel_rfl) (by kernel_rfl) (by kernel_rfl) (fun _ _ _ h => h) (Or.inl ⟨by rfl, ?_⟩) (by assumption) ?_
          rotate_left
          · intro w hSw; obtain ⟨_, _, _, _⟩ := hSw; go_simp; (try with_reducible rfl)
          try change wpAnyH _ _ _ _ _ _ _ (Act.put _ (some 55) _) _
          try simp only [act_all]
          refine wpAnyH_ready (rs := [2]) (by kernel_rfl) (by simp) ?_
          refine AllReadyH.cons (o := _) rfl (fun K hK => ?_) AllReadyH.nil
          go_simp
          refine hK.out _ _ (by refine ⟨?_, ?_, ?_, ?_⟩ <;> go_cell) (fun hHeld => ?_)
          clear hK K
          try simp only [act_all]
          refine wpAnyH_ready (rs := [3]) (by kernel_rfl) (by simp) ?_
          refine AllReadyH.cons (o := _) rfl (fun K hK => ?_) AllReadyH.nil
          go_simp
          refine hK.out _ _ (by refine ⟨?_, ?_, ?_, ?_⟩ <;> go_cell) (fun hHeld => ?_)
          clear hK K
          try simp only [act_all]
          refine wpAnyH_take (i := 4) (oi := _) (v := ?_) rfl (by kernel_rfl) (by kernel_rfl) (by kernel_rfl) (fun _ _ _ h => h) (Or.inl ⟨by rfl, ?_⟩) (by assumption) ?_
          rotate_left
          · intro w hSw; obtain ⟨_, _, _, _⟩ := hSw; go_simp; (try with_reducible rfl)
          try change wpAnyH _ _ _ _ _ _ _ (Act.put _ (some 4) _) _
          try simp only [act_all]
          refine wpAnyH_done (by kernel_rfl) ?_ _
          have HDF := DX
          clear DX
          go_wp2_with fail
          refine bodyPost_ret (v := .tuple #[.agg #[.int .i64 px, .int .i64 qx], .agg #[.int .i64 py, .int .i64 qy], .int .i64 0]) (by simp [results, Try.results45, go_sem, *]) rfl ⟨by rw [HFR.out], by go_grown⟩
        · have hb1 : (ye == 0) = false := beq_eq_false_iff_ne.2 hy
          have hb2 : (ye != 0) = true := bne_iff_ne.2 hy
          have HFR : Hid (OutP SP = .returned (.tuple #[.agg #[.int .i64 0, .int .i64 0], .agg #[.int .i64 0, .int .i64 0], .int .i64 ye])) := Lib.hid (by rw [HFX.out]; exact if_neg hy)
          clear hy
          go_upto_region 7 with fail
          refine wp_region_held_drew (S := fun w' => w'.cell? ⟨G, 0, none⟩ = some (.int .i64 ye)) (by kernel_rfl) gc (fun hHeld => ?_)
          refine wpAnyH_take (i := 0) (oi := _) (v := ?_) rfl (by kernel_rfl) (by kernel_rfl) (by kernel_rfl) (fun _ _ _ h => h) (Or.inl ⟨by rfl, ?_⟩) (by assumption) ?_
          rotate_left
          · intro w hSw; obtain _ := hSw; go_simp; (try with_reducible rfl)
          try change wpAnyH _ _ _ _ _ _ _ (Act.put _ (some 48) _) _
          try simp only [act_all]
          refine wpAnyH_take (i := 1) (oi := _) (v := ?_) rfl (by kernel_rfl) (by kernel_rfl) (by kernel_rfl) (fun _ _ _ h => h) (Or.inl ⟨by rfl, ?_⟩) (by assumption) ?_
          rotate_left
          · intro w hSw; obtain _ := hSw; go_simp; (try with_reducible rfl)
          try change wpAnyH _ _ _ _ _ _ _ (Act.put _ (some 49) _) _
          try simp only [act_all]
          refine wpAnyH_take (i := 2) (oi := _) (v := ?_) rfl (by kernel_rfl) (by kernel_rfl) (by kernel_rfl) (fun _ _ _ h => h) (Or.inl ⟨by rfl, ?_⟩) (by assumption) ?_
          rotate_left
          · intro w hSw; obtain _ := hSw; go_simp; (try with_reducible rfl)
          try change wpAnyH _ _ _ _ _ _ _ (Act.put _ (some 50) _) _
          try simp only [act_all]
          refine wpAnyH_take (i := 3) (oi := _) (v := ?_) rfl (by kernel_rfl) (by kernel_rfl) (by kernel_rfl) (fun _ _ _ h => h) (Or.inl ⟨by rfl, ?_⟩) (by assumption) ?_
          rotate_left
          · intro w hSw; obtain _ := hSw; go_simp; (try with_reducible rfl)
          try change wpAnyH _ _ _ _ _ _ _ (Act.put _ (some 51) _) _
          try simp only [act_all]
          refine wpAnyH_take (i := 4) (oi := _) (v := ?_) rfl (by kernel_rfl) (by kernel_rfl) (by kernel_rfl) (fun _ _ _ h => h) (Or.inl ⟨by rfl, ?_⟩) (by assumption) ?_
          rotate_left
          · intro w hSw; obtain _ := hSw; go_simp; (try with_reducible rfl)
          try change wpAnyH _ _ _ _ _ _ _ (Act.put _ (some 52) _) _
          try simp only [act_all]
          refine wpAnyH_take (i := 5) (oi := _) (v := ?_) rfl (by kernel_rfl) (by kernel_rfl) (by kernel_rfl) (fun _ _ _ h => h) (Or.inl ⟨by rfl, ?_⟩) (by assumption) ?_
          rotate_left
          · intro w hSw; obtain _ := hSw; go_simp; (try with_reducible rfl)
          try change wpAnyH _ _ _ _ _ _ _ (Act.put _ (some 53) _) _
          try simp only [act_all]
          refine wpAnyH_ready (rs := [6]) (by kernel_rfl) (by simp) ?_
          refine AllReadyH.cons (o := _) rfl (fun K hK => ?_) AllReadyH.nil
          go_simp
          refine hK.out _ _ (by go_cell) (fun hHeld => ?_)
          clear hK K
          try simp only [act_all]
          refine wpAnyH_ready (rs := [7]) (by kernel_rfl) (by simp) ?_
          refine AllReadyH.cons (o := _) rfl (fun K hK => ?_) AllReadyH.nil
          go_simp
          refine hK.out _ _ (by go_cell) (fun hHeld => ?_)
          clear hK K
          try simp only [act_all]
          refine wpAnyH_take (i := 8) (oi := _) (v := ?_) rfl (by kernel_rfl) (by kernel_rfl) (by kernel_rfl) (fun _ _ _ h => h) (Or.inl ⟨by rfl, ?_⟩) (by assumption) ?_
          rotate_left
          · intro w hSw; obtain _ := hSw; go_simp; (try with_reducible rfl)
          try change wpAnyH _ _ _ _ _ _ _ (Act.put _ (some 4) _) _
          try simp only [act_all]
          refine wpAnyH_done (by kernel_rfl) ?_ _
          have HDF := DX
          clear DX
          go_wp2_with fail
          refine bodyPost_ret (v := .tuple #[.agg #[.int .i64 0, .int .i64 0], .agg #[.int .i64 0, .int .i64 0], .int .i64 ye]) (by simp [results, Try.results45, go_sem, *]) rfl ⟨by rw [HFR.out], by go_grown⟩
end Go.Proofs.Ytilclpldfoifkaa
