import Derived.Test.YtilclpldfoifkaaR5h
import Derived.Deep.DeepCutAuto
import Derived.Deep.CutBlock
import Derived.Test.YtilclpldfoifkaaR5m
import Derived.Test.YtilclpldfoifkaaUq
import Derived.Test.YtilclpldfoifkaaAw5
namespace Encl
def sinS (j : Nat) : Sp := if j = 0 then S0 else (cis j).im
theorem cis_step {j : Nat} {p q : Int} (h : (cis j).re = ⟨p, q⟩) (hj : j ≤ 8) :
    addS ⟨1073741824, 1073741824⟩ ⟨p, q⟩ = .ok ⟨1073741824 + p, 1073741824 + q⟩ ∧ subS ⟨1073741824, 1073741824⟩ ⟨p, q⟩ = .ok ⟨1073741824 - q, 1073741824 - p⟩ ∧
    okS ⟨p, q⟩ = true ∧ okS ⟨1073741824 + p, 1073741824 + q⟩ = true ∧ okS ⟨1073741824 - q, 1073741824 - p⟩ = true ∧
    okS (halfS ⟨1073741824 + p, 1073741824 + q⟩) = true ∧ 0 ≤ (halfS ⟨1073741824 + p, 1073741824 + q⟩).lo ∧ okS (halfS ⟨1073741824 - q, 1073741824 - p⟩) = true ∧ 0 ≤ (halfS ⟨1073741824 - q, 1073741824 - p⟩).lo ∧
    cis (j + 1) = ⟨rootS (halfS ⟨1073741824 + p, 1073741824 + q⟩), rootS (halfS ⟨1073741824 - q, 1073741824 - p⟩)⟩ := by
  have hb := cis_re hj
  rw [h] at hb
  simp only at hb
  have h2 := Go.Proofs.Ytilclpldfoifkaa.half_ok hb.1 hb.2.1 hb.2.2
  have k1 : okS ⟨p, q⟩ = true := by rw [okS_iff]; simp only; omega
  have k2 : okS ⟨1073741824 + p, 1073741824 + q⟩ = true := by rw [okS_iff]; simp only; omega
  have k3 : okS ⟨1073741824 - q, 1073741824 - p⟩ = true := by rw [okS_iff]; simp only; omega
  refine ⟨inR_ok k2, ?_, k1, k2, k3, h2.1, h2.2.1, h2.2.2.1, h2.2.2.2, ?_⟩
  · have e : subS ⟨1073741824, 1073741824⟩ ⟨p, q⟩ = inR ⟨1073741824 - q, 1073741824 - p⟩ := by unfold subS addS negS; congr 1
    rw [e, inR_ok k3]
  · show nxt (cis j).re = _
    rw [h]; rfl
end Encl
namespace Go.Proofs.Ytilclpldfoifkaa
open Go.RowKit Encl

set_option maxRecDepth 100000 in
set_option maxHeartbeats 8000000 in
theorem rPoint_any (k : Nat) (g : Nat) (w : World) (h3 : 3 ≤ k) (h10 : k ≤ 10) (hc : w.cell? ⟨g, 0, none⟩ = some (.int .i64 0)) (hf : w.frozen? ⟨g, 0, none⟩ = false) :
    Calls Try.prog 77 #[.pointer (some ⟨g, 0, none⟩), .int .i64 k] w fun e w' => e = retR (cis (k - 2)) ∧ Wk g 0 w.heap.size w w' := by
  have hg : g < w.heap.size := World.block_lt_of_cell? w _ hc
  have hfl : ∀ w : World, (Instr.field 25 (.agg #[.int .i64 1073741824, .int .i64 1073741824, .int .i64 0, .int .i64 0]) 0).run Try.prog w = .ok (.agg #[.int .i64 1073741824, .int .i64 1073741824]) w := fun _ => rfl
  go_enter Try.func77, Try.ntmps77
  go_wp2_with fail
  refine (rWhole_any 1 _ (by omega) (by omega)).mono ?_
  rw [show (1 : Int) * 1073741824 = 1073741824 from rfl]
  rintro e w1 ⟨he, hb⟩
  obtain rfl : e = .returned (.agg #[.int .i64 1073741824, .int .i64 1073741824, .int .i64 0, .int .i64 0]) := he
  have D1 : Below w.heap.size w w1 := Below.trans (by go_grown) (hb.mono (by first | omega | (simp; done) | (simp; omega)))
  have s1 : w.heap.size < w1.heap.size := by have hs := hb.size; (try simp at hs); omega
  obtain ⟨k1, k2⟩ := bcl hb
  have d0 := (k1 w.heap.size 0 (by simp)).trans (by go_cell : _ = some (.int .i64 0))
  have f0 := (k2 w.heap.size 0 (by simp)).trans (by go_cell : _ = false)
  have d1 := (k1 w.heap.size 1 (by simp)).trans (by go_cell : _ = some (.int .i64 0))
  have f1 := (k2 w.heap.size 1 (by simp)).trans (by go_cell : _ = false)
  have d2 := (k1 w.heap.size 2 (by simp)).trans (by go_cell : _ = some (.int .i64 0))
  have f2 := (k2 w.heap.size 2 (by simp)).trans (by go_cell : _ = false)
  have d3 := (k1 w.heap.size 3 (by simp)).trans (by go_cell : _ = some (.int .i64 0))
  have f3 := (k2 w.heap.size 3 (by simp)).trans (by go_cell : _ = false)
  have gc := (D1.cell (p := ⟨g, 0, none⟩) hg).trans hc
  have gf := (D1.frozen (p := ⟨g, 0, none⟩) hg).trans hf
  clear hb k1 k2 hc hf
  go_upto_block 0 with fail
  have b3 : Below w1.heap.size w1 (((w1.alloc (Obj.cells #[.int .i64 1073741824, .int .i64 1073741824] 23)).alloc (Obj.cells #[.int .i64 0, .int .i64 0] 23)).alloc (Obj.cells #[.int .i64 0, .int .i64 0] 23)) := bal (bal (bal (Below.refl _ _) _) _) _
  have HW : Wk g 0 w.heap.size w (((w1.alloc (Obj.cells #[.int .i64 1073741824, .int .i64 1073741824] 23)).alloc (Obj.cells #[.int .i64 0, .int .i64 0] 23)).alloc (Obj.cells #[.int .i64 0, .int .i64 0] 23)) := (Wk.of_below D1 gc gf).then (b3.mono D1.size) hg
  have c00 : (((w1.alloc (Obj.cells #[.int .i64 1073741824, .int .i64 1073741824] 23)).alloc (Obj.cells #[.int .i64 0, .int .i64 0] 23)).alloc (Obj.cells #[.int .i64 0, .int .i64 0] 23)).cell? ⟨w1.heap.size, 0, none⟩ = some (.int .i64 1073741824) := by go_cell
  have c01 : (((w1.alloc (Obj.cells #[.int .i64 1073741824, .int .i64 1073741824] 23)).alloc (Obj.cells #[.int .i64 0, .int .i64 0] 23)).alloc (Obj.cells #[.int .i64 0, .int .i64 0] 23)).cell? ⟨w1.heap.size, 1, none⟩ = some (.int .i64 1073741824) := by go_cell
  have c10 : (((w1.alloc (Obj.cells #[.int .i64 1073741824, .int .i64 1073741824] 23)).alloc (Obj.cells #[.int .i64 0, .int .i64 0] 23)).alloc (Obj.cells #[.int .i64 0, .int .i64 0] 23)).cell? ⟨w1.heap.size + 1, 0, none⟩ = some (.int .i64 0) := by go_cell
  have g10 : (((w1.alloc (Obj.cells #[.int .i64 1073741824, .int .i64 1073741824] 23)).alloc (Obj.cells #[.int .i64 0, .int .i64 0] 23)).alloc (Obj.cells #[.int .i64 0, .int .i64 0] 23)).frozen? ⟨w1.heap.size + 1, 0, none⟩ = false := by go_cell
  have c11 : (((w1.alloc (Obj.cells #[.int .i64 1073741824, .int .i64 1073741824] 23)).alloc (Obj.cells #[.int .i64 0, .int .i64 0] 23)).alloc (Obj.cells #[.int .i64 0, .int .i64 0] 23)).cell? ⟨w1.heap.size + 1, 1, none⟩ = some (.int .i64 0) := by go_cell
  have g11 : (((w1.alloc (Obj.cells #[.int .i64 1073741824, .int .i64 1073741824] 23)).alloc (Obj.cells #[.int .i64 0, .int .i64 0] 23)).alloc (Obj.cells #[.int .i64 0, .int .i64 0] 23)).frozen? ⟨w1.heap.size + 1, 1, none⟩ = false := by go_cell
  have c20 : (((w1.alloc (Obj.cells #[.int .i64 1073741824, .int .i64 1073741824] 23)).alloc (Obj.cells #[.int .i64 0, .int .i64 0] 23)).alloc (Obj.cells #[.int .i64 0, .int .i64 0] 23)).cell? ⟨w1.heap.size + 1 + 1, 0, none⟩ = some (.int .i64 0) := by go_cell
  have g20 : (((w1.alloc (Obj.cells #[.int .i64 1073741824, .int .i64 1073741824] 23)).alloc (Obj.cells #[.int .i64 0, .int .i64 0] 23)).alloc (Obj.cells #[.int .i64 0, .int .i64 0] 23)).frozen? ⟨w1.heap.size + 1 + 1, 0, none⟩ = false := by go_cell
  have c21 : (((w1.alloc (Obj.cells #[.int .i64 1073741824, .int .i64 1073741824] 23)).alloc (Obj.cells #[.int .i64 0, .int .i64 0] 23)).alloc (Obj.cells #[.int .i64 0, .int .i64 0] 23)).cell? ⟨w1.heap.size + 1 + 1, 1, none⟩ = some (.int .i64 0) := by go_cell
  have g21 : (((w1.alloc (Obj.cells #[.int .i64 1073741824, .int .i64 1073741824] 23)).alloc (Obj.cells #[.int .i64 0, .int .i64 0] 23)).alloc (Obj.cells #[.int .i64 0, .int .i64 0] 23)).frozen? ⟨w1.heap.size + 1 + 1, 1, none⟩ = false := by go_cell
  have dd0 := (b3.cell (p := ⟨w.heap.size, 0, none⟩) s1).trans d0
  have ff0 := (b3.frozen (p := ⟨w.heap.size, 0, none⟩) s1).trans f0
  have dd1 := (b3.cell (p := ⟨w.heap.size, 1, none⟩) s1).trans d1
  have ff1 := (b3.frozen (p := ⟨w.heap.size, 1, none⟩) s1).trans f1
  have dd2 := (b3.cell (p := ⟨w.heap.size, 2, none⟩) s1).trans d2
  have ff2 := (b3.frozen (p := ⟨w.heap.size, 2, none⟩) s1).trans f2
  have dd3 := (b3.cell (p := ⟨w.heap.size, 3, none⟩) s1).trans d3
  have ff3 := (b3.frozen (p := ⟨w.heap.size, 3, none⟩) s1).trans f3
  have sz : w1.heap.size + 1 + 1 < (((w1.alloc (Obj.cells #[.int .i64 1073741824, .int .i64 1073741824] 23)).alloc (Obj.cells #[.int .i64 0, .int .i64 0] 23)).alloc (Obj.cells #[.int .i64 0, .int .i64 0] 23)).heap.size := by simp
  clear b3 D1 gc gf d0 d1 d2 d3 f0 f1 f2 f3
  generalize (((w1.alloc (Obj.cells #[.int .i64 1073741824, .int .i64 1073741824] 23)).alloc (Obj.cells #[.int .i64 0, .int .i64 0] 23)).alloc (Obj.cells #[.int .i64 0, .int .i64 0] 23)) = W at *
  generalize w1.heap.size = OB at *
  go_wp2_with fail
  go_loopw [8] (fun nv wr => ∃ (j : Nat) (p q s t : Int), nv = .int .i64 ((j : Int) + 2) ∧ j + 2 ≤ k ∧ Hid ((cis j).re = ⟨p, q⟩ ∧ sinS j = ⟨s, t⟩) ∧ Hid (Wk g 0 w.heap.size w wr) ∧ OB + 1 + 1 < wr.heap.size ∧ Hid (wr.cell? ⟨OB, 0, none⟩ = some (.int .i64 1073741824) ∧ wr.cell? ⟨OB, 1, none⟩ = some (.int .i64 1073741824) ∧ wr.cell? ⟨w.heap.size, 0, none⟩ = some (.int .i64 0) ∧ wr.cell? ⟨w.heap.size, 1, none⟩ = some (.int .i64 0) ∧ wr.cell? ⟨w.heap.size, 2, none⟩ = some (.int .i64 0) ∧ wr.cell? ⟨w.heap.size, 3, none⟩ = some (.int .i64 0) ∧ wr.frozen? ⟨w.heap.size, 0, none⟩ = false ∧ wr.frozen? ⟨w.heap.size, 1, none⟩ = false ∧ wr.frozen? ⟨w.heap.size, 2, none⟩ = false ∧ wr.frozen? ⟨w.heap.size, 3, none⟩ = false ∧ wr.frozen? ⟨OB + 1, 0, none⟩ = false ∧ wr.frozen? ⟨OB + 1, 1, none⟩ = false ∧ wr.frozen? ⟨OB + 1 + 1, 0, none⟩ = false ∧ wr.frozen? ⟨OB + 1 + 1, 1, none⟩ = false) ∧ wr.cell? ⟨OB + 1, 0, none⟩ = some (.int .i64 p) ∧ wr.cell? ⟨OB + 1, 1, none⟩ = some (.int .i64 q) ∧ wr.cell? ⟨OB + 1 + 1, 0, none⟩ = some (.int .i64 s) ∧ wr.cell? ⟨OB + 1 + 1, 1, none⟩ = some (.int .i64 t)) (fun nv _ => (k + 2 - (intOf nv).toNat))
  case atStart => exact ⟨0, 0, 0, 0, 0, by go_num, by omega, Lib.hid ⟨rfl, rfl⟩, Lib.hid HW, sz, Lib.hid ⟨c00, c01, dd0, dd1, dd2, dd3, ff0, ff1, ff2, ff3, g10, g11, g20, g21⟩, c10, c11, c20, c21⟩
  case round =>
    obtain ⟨j, p, q, s, t, rfl, hj, HX, HWr, hsz, HF, x0, x1, y0, y1⟩ := hrel
    have hgW : g < wr.heap.size := by have := HWr.out.size; omega
    by_cases hlt : j + 2 < k
    · have hlt' : ((j : Int) + 2) < (k : Int) := by omega
      obtain ⟨a1, a2, K1, K2, K3, K4, K5, K6, K7, KE⟩ := cis_step HX.out.1 (by omega)
      obtain ⟨H1, H2, HK1, HK2, HK3, HK4, HK5, HK6, HK7, HKE⟩ := (⟨Lib.hid a1, Lib.hid a2, Lib.hid K1, Lib.hid K2, Lib.hid K3, Lib.hid K4, Lib.hid K5, Lib.hid K6, Lib.hid K7, Lib.hid KE⟩ : Hid _ ∧ Hid _ ∧ Hid _ ∧ Hid _ ∧ Hid _ ∧ Hid _ ∧ Hid _ ∧ Hid _ ∧ Hid _ ∧ Hid _)
      clear a1 a2 K1 K2 K3 K4 K5 K6 K7 KE
      obtain ⟨u1, u2, hu⟩ : ∃ u1 u2, halfS ⟨1073741824 + p, 1073741824 + q⟩ = ⟨u1, u2⟩ := ⟨_, _, rfl⟩
      obtain ⟨v1, v2, hv⟩ : ∃ v1 v2, halfS ⟨1073741824 - q, 1073741824 - p⟩ = ⟨v1, v2⟩ := ⟨_, _, rfl⟩
      obtain ⟨r1, r2, hr⟩ : ∃ r1 r2, rootS ⟨u1, u2⟩ = ⟨r1, r2⟩ := ⟨_, _, rfl⟩
      obtain ⟨z1, z2, hz⟩ : ∃ z1 z2, rootS ⟨v1, v2⟩ = ⟨z1, z2⟩ := ⟨_, _, rfl⟩
      rw [hu] at HK4 HK5 HKE
      rw [hv] at HK6 HK7 HKE
      rw [hr, hz] at HKE
      have HU := Lib.hid hu
      have HV := Lib.hid hv
      have HR := Lib.hid hr
      have HZ := Lib.hid hz
      have HO : Hid (okS ⟨1073741824, 1073741824⟩ = true) := Lib.hid (by decide)
      clear hu hv hr hz
      obtain ⟨o0, o1, d0, d1, d2, d3, f0, f1, f2, f3, g10, g11, g20, g21⟩ := HF.out
      have HD : Wk g 0 wr.heap.size wr wr := ⟨rfl, rfl, rfl, Nat.le_refl _, fun _ _ _ => rfl, HWr.out.cell, HWr.out.free⟩
      have hwl := HWr.out.size
      go_upto_region 6 with fail
      have G0 : Hid (∀ (e : Int) w', Wk g e wr.heap.size wr w' → w'.cell? ⟨OB, 0, none⟩ = some (.int .i64 1073741824) ∧ w'.cell? ⟨OB, 1, none⟩ = some (.int .i64 1073741824)) := Lib.hid (fun e w' hb => by
        exact ⟨(hb.cells.1 _ 0 (by omega) (by omega)).trans o0, (hb.cells.1 _ 1 (by omega) (by omega)).trans o1⟩)
      have G1 : Hid (∀ (e : Int) w', Wk g e wr.heap.size wr w' → w'.cell? ⟨OB + 1, 0, none⟩ = some (.int .i64 p) ∧ w'.cell? ⟨OB + 1, 1, none⟩ = some (.int .i64 q) ∧ w'.cell? ⟨OB + 1 + 1, 0, none⟩ = some (.int .i64 s) ∧ w'.cell? ⟨OB + 1 + 1, 1, none⟩ = some (.int .i64 t) ∧ w'.frozen? ⟨OB + 1, 0, none⟩ = false ∧ w'.frozen? ⟨OB + 1, 1, none⟩ = false ∧ w'.frozen? ⟨OB + 1 + 1, 0, none⟩ = false ∧ w'.frozen? ⟨OB + 1 + 1, 1, none⟩ = false) := Lib.hid (fun e w' hb => by
        exact ⟨(hb.cells.1 _ 0 (by omega) (by omega)).trans x0, (hb.cells.1 _ 1 (by omega) (by omega)).trans x1, (hb.cells.1 _ 0 (by omega) (by omega)).trans y0, (hb.cells.1 _ 1 (by omega) (by omega)).trans y1, (hb.cells.2 _ 0 (by omega) (by omega)).trans g10, (hb.cells.2 _ 1 (by omega) (by omega)).trans g11, (hb.cells.2 _ 0 (by omega) (by omega)).trans g20, (hb.cells.2 _ 1 (by omega) (by omega)).trans g21⟩)
      have G2 : Hid (∀ (e : Int) w', Wk g e wr.heap.size wr w' → w'.cell? ⟨w.heap.size, 0, none⟩ = some (.int .i64 0) ∧ w'.cell? ⟨w.heap.size, 1, none⟩ = some (.int .i64 0) ∧ w'.cell? ⟨w.heap.size, 2, none⟩ = some (.int .i64 0) ∧ w'.cell? ⟨w.heap.size, 3, none⟩ = some (.int .i64 0) ∧ w'.frozen? ⟨w.heap.size, 0, none⟩ = false ∧ w'.frozen? ⟨w.heap.size, 1, none⟩ = false ∧ w'.frozen? ⟨w.heap.size, 2, none⟩ = false ∧ w'.frozen? ⟨w.heap.size, 3, none⟩ = false ∧ w'.frozen? ⟨OB + 1, 0, none⟩ = false ∧ w'.frozen? ⟨OB + 1, 1, none⟩ = false ∧ w'.frozen? ⟨OB + 1 + 1, 0, none⟩ = false ∧ w'.frozen? ⟨OB + 1 + 1, 1, none⟩ = false) := Lib.hid (fun e w' hb => by
        exact ⟨(hb.cells.1 _ 0 (by omega) (by omega)).trans d0, (hb.cells.1 _ 1 (by omega) (by omega)).trans d1, (hb.cells.1 _ 2 (by omega) (by omega)).trans d2, (hb.cells.1 _ 3 (by omega) (by omega)).trans d3, (hb.cells.2 _ 0 (by omega) (by omega)).trans f0, (hb.cells.2 _ 1 (by omega) (by omega)).trans f1, (hb.cells.2 _ 2 (by omega) (by omega)).trans f2, (hb.cells.2 _ 3 (by omega) (by omega)).trans f3, (hb.cells.2 _ 0 (by omega) (by omega)).trans g10, (hb.cells.2 _ 1 (by omega) (by omega)).trans g11, (hb.cells.2 _ 0 (by omega) (by omega)).trans g20, (hb.cells.2 _ 1 (by omega) (by omega)).trans g21⟩)
      clear HF x0 x1 y0 y1 o0 o1 d0 d1 d2 d3 f0 f1 f2 f3 g10 g11 g20 g21 hlt'
      have HD0 : Wk g 0 wr.heap.size wr wr.drew := HD.then ((Below.refl _ _).drew) hgW
      refine wp_region_held_drew (S := fun w' => w'.cell? ⟨OB, 0, none⟩ = some (.int .i64 1073741824) ∧ w'.cell? ⟨OB, 1, none⟩ = some (.int .i64 1073741824)) (by kernel_rfl) (G0.out _ _ HD0) (fun hHeld => ?_)
      refine wpAnyH_take (i := 0) (oi := _) (v := ?_) rfl (by kernel_rfl) (by kernel_rfl) (by kernel_rfl) (fun _ _ _ h => h) (Or.inl ⟨by rfl, ?_⟩) (by assumption) ?_
      rotate_left
      · intro w hSw; obtain ⟨_, _⟩ := hSw; go_simp; (try with_reducible rfl)
      try change wpAnyH _ _ _ _ _ _ _ (Act.put _ (some 18) _) _
      try simp only [act_all]
      refine wpAnyH_take (i := 1) (oi := _) (v := ?_) rfl (by kernel_rfl) (by kernel_rfl) (by kernel_rfl) (fun _ _ _ h => h) (Or.inl ⟨by rfl, ?_⟩) (by assumption) ?_
      rotate_left
      · intro w hSw; obtain ⟨_, _⟩ := hSw; go_simp; (try with_reducible rfl)
      try change wpAnyH _ _ _ _ _ _ _ (Act.put _ (some 19) _) _
      try simp only [act_all]
      refine wpAnyH_take (i := 2) (oi := _) (v := ?_) rfl (by kernel_rfl) (by kernel_rfl) (by kernel_rfl) (fun _ _ _ h => h) (Or.inl ⟨by rfl, ?_⟩) (by assumption) ?_
      rotate_left
      · intro w hSw; obtain ⟨_, _⟩ := hSw; go_simp; (try with_reducible rfl)
      try change wpAnyH _ _ _ _ _ _ _ (Act.put _ (some 20) _) _
      try simp only [act_all]
      refine wpAnyH_take (i := 3) (oi := _) (v := ?_) rfl (by kernel_rfl) (by kernel_rfl) (by kernel_rfl) (fun _ _ _ h => h) (Or.inl ⟨by rfl, ?_⟩) (by assumption) ?_
      rotate_left
      · intro w hSw; obtain ⟨_, _⟩ := hSw; go_simp; (try with_reducible rfl)
      try change wpAnyH _ _ _ _ _ _ _ (Act.put _ (some 21) _) _
      try simp only [act_all]
      refine wpAnyH_take (i := 8) (oi := _) (v := ?_) rfl (by kernel_rfl) (by kernel_rfl) (by kernel_rfl) (fun _ _ _ h => h) (Or.inl ⟨by rfl, ?_⟩) (by assumption) ?_
      rotate_left
      · intro w hSw; obtain ⟨_, _⟩ := hSw; go_simp; (try with_reducible rfl)
      try change wpAnyH _ _ _ _ _ _ _ (Act.put _ (some 26) _) _
      try simp only [act_all]
      refine wpAnyH_take (i := 9) (oi := _) (v := ?_) rfl (by kernel_rfl) (by kernel_rfl) (by kernel_rfl) (fun _ _ _ h => h) (Or.inl ⟨by rfl, ?_⟩) (by assumption) ?_
      rotate_left
      · intro w hSw; obtain ⟨_, _⟩ := hSw; go_simp; (try with_reducible rfl)
      try change wpAnyH _ _ _ _ _ _ _ (Act.put _ (some 27) _) _
      try simp only [act_all]
      refine wpAnyH_take (i := 10) (oi := _) (v := ?_) rfl (by kernel_rfl) (by kernel_rfl) (by kernel_rfl) (fun _ _ _ h => h) (Or.inl ⟨by rfl, ?_⟩) (by assumption) ?_
      rotate_left
      · intro w hSw; obtain ⟨_, _⟩ := hSw; go_simp; (try with_reducible rfl)
      try change wpAnyH _ _ _ _ _ _ _ (Act.put _ (some 28) _) _
      try simp only [act_all]
      refine wpAnyH_take (i := 11) (oi := _) (v := ?_) rfl (by kernel_rfl) (by kernel_rfl) (by kernel_rfl) (fun _ _ _ h => h) (Or.inl ⟨by rfl, ?_⟩) (by assumption) ?_
      rotate_left
      · intro w hSw; obtain ⟨_, _⟩ := hSw; go_simp; (try with_reducible rfl)
      try change wpAnyH _ _ _ _ _ _ _ (Act.put _ (some 29) _) _
      try simp only [act_all]
      refine wpAnyH_ready (rs := [4, 12]) (by kernel_rfl) (by simp) ?_
      refine AllReadyH.cons (o := _) rfl (fun K hK => ?_) ?_
      · obtain ⟨_, _, _, _, _, _, _, _⟩ := G1.out _ _ HD0
        go_simp
        refine hK.out _ _ (G0.out _ _ HD0) (fun hHeld => ?_)
        clear hK K
        try simp only [act_all]
        refine wpAnyH_ready (rs := [5, 12]) (by kernel_rfl) (by simp) ?_
        refine AllReadyH.cons (o := _) rfl (fun K hK => ?_) ?_
        · go_simp
          refine (rSum_any 1073741824 1073741824 p q 0 g _ HO.out HK1.out HD0.cell HD0.free).mono ?_
          rw [H1.out, rn_ok]
          rintro e w1_ ⟨he, hb⟩
          obtain rfl : e = .returned (.agg #[.int .i64 (1073741824 + p), .int .i64 (1073741824 + q)]) := he
          have HD1 : Wk g 0 wr.heap.size wr w1_ := HD0.trans (hb.mono HD0.size)
          clear hb hHeld
          refine hK.out _ _ (G0.out _ _ HD1) (fun hHeld => ?_)
          clear hK K
          try simp only [act_all]
          refine wpAnyH_ready (rs := [6, 12]) (by kernel_rfl) (by simp) ?_
          refine AllReadyH.cons (o := _) rfl (fun K hK => ?_) ?_
          · go_simp
            refine (rHalf_any (1073741824 + p) (1073741824 + q) 0 g _ HK2.out HD1.cell HD1.free).mono ?_
            rw [HU.out, inR_ok HK4.out, rn_ok]
            rintro e w2_ ⟨he, hb⟩
            obtain rfl : e = .returned (.agg #[.int .i64 u1, .int .i64 u2]) := he
            have HD2 : Wk g 0 wr.heap.size wr w2_ := HD1.trans (hb.mono HD1.size)
            clear hb hHeld
            refine hK.out _ _ (G0.out _ _ HD2) (fun hHeld => ?_)
            clear hK K
            try simp only [act_all]
            refine wpAnyH_ready (rs := [7, 12]) (by kernel_rfl) (by simp) ?_
            refine AllReadyH.cons (o := _) rfl (fun K hK => ?_) ?_
            · go_simp
              refine (rRootW_any u1 u2 0 g _ HK4.out HK5.out HD2.cell HD2.free).mono ?_
              rw [HR.out, rn_ok]
              rintro e w3_ ⟨he, hb⟩
              obtain rfl : e = .returned (.agg #[.int .i64 r1, .int .i64 r2]) := he
              have HD3 : Wk g 0 wr.heap.size wr w3_ := HD2.trans (hb.mono HD2.size)
              clear hb hHeld
              refine hK.out _ _ (G0.out _ _ HD3) (fun hHeld => ?_)
              clear hK K
              try simp only [act_all]
              refine wpAnyH_ready (rs := [12]) (by kernel_rfl) (by simp) ?_
              refine AllReadyH.cons (o := _) rfl (fun K hK => ?_) AllReadyH.nil
              obtain ⟨_, _, _, _, _, _, _, _⟩ := G1.out _ _ HD3
              go_simp
              refine hK.out _ _ (G0.out _ _ HD3) (fun hHeld => ?_)
              clear hK K
              try simp only [act_all]
              refine wpAnyH_ready (rs := [13]) (by kernel_rfl) (by simp) ?_
              refine AllReadyH.cons (o := _) rfl (fun K hK => ?_) AllReadyH.nil
              go_simp
              refine (rLess_any 1073741824 1073741824 p q 0 g _ HO.out HK1.out HD3.cell HD3.free).mono ?_
              rw [H2.out, rn_ok]
              rintro e w4_ ⟨he, hb⟩
              obtain rfl : e = .returned (.agg #[.int .i64 (1073741824 - q), .int .i64 (1073741824 - p)]) := he
              have HD4 : Wk g 0 wr.heap.size wr w4_ := HD3.trans (hb.mono HD3.size)
              clear hb hHeld
              refine hK.out _ _ (G0.out _ _ HD4) (fun hHeld => ?_)
              clear hK K
              try simp only [act_all]
              refine wpAnyH_ready (rs := [14]) (by kernel_rfl) (by simp) ?_
              refine AllReadyH.cons (o := _) rfl (fun K hK => ?_) AllReadyH.nil
              go_simp
              refine (rHalf_any (1073741824 - q) (1073741824 - p) 0 g _ HK3.out HD4.cell HD4.free).mono ?_
              rw [HV.out, inR_ok HK6.out, rn_ok]
              rintro e w5_ ⟨he, hb⟩
              obtain rfl : e = .returned (.agg #[.int .i64 v1, .int .i64 v2]) := he
              have HD5 : Wk g 0 wr.heap.size wr w5_ := HD4.trans (hb.mono HD4.size)
              clear hb hHeld
              refine hK.out _ _ (G0.out _ _ HD5) (fun hHeld => ?_)
              clear hK K
              try simp only [act_all]
              refine wpAnyH_ready (rs := [15]) (by kernel_rfl) (by simp) ?_
              refine AllReadyH.cons (o := _) rfl (fun K hK => ?_) AllReadyH.nil
              go_simp
              refine (rRootW_any v1 v2 0 g _ HK6.out HK7.out HD5.cell HD5.free).mono ?_
              rw [HZ.out, rn_ok]
              rintro e w6_ ⟨he, hb⟩
              obtain rfl : e = .returned (.agg #[.int .i64 z1, .int .i64 z2]) := he
              have HD6 : Wk g 0 wr.heap.size wr w6_ := HD5.trans (hb.mono HD5.size)
              clear hb hHeld
              refine hK.out _ _ (G0.out _ _ HD6) (fun hHeld => ?_)
              clear hK K
              try simp only [act_all]
              refine wpAnyH_ready (rs := [16]) (by kernel_rfl) (by simp) ?_
              refine AllReadyH.cons (o := _) rfl (fun K hK => ?_) AllReadyH.nil
              obtain ⟨_, _⟩ := G0.out _ _ HD6
              obtain ⟨_, _, _, _, _, _, _, _⟩ := G1.out _ _ HD6
              have hzz := HD6.size
              have e1 : OB + 1 < w6_.heap.size := by omega
              have e2 : OB + 1 + 1 < w6_.heap.size := by omega
              have e3 : OB < w6_.heap.size := by omega
              go_simp
              refine hK.out _ _ (by refine ⟨?_, ?_⟩ <;> go_cell) (fun hHeld => ?_)
              clear hK K
              try simp only [act_all]
              refine wpAnyH_ready (rs := [17]) (by kernel_rfl) (by simp) ?_
              refine AllReadyH.cons (o := _) rfl (fun K hK => ?_) AllReadyH.nil
              go_simp
              refine hK.out _ _ (by refine ⟨?_, ?_⟩ <;> go_cell) (fun hHeld => ?_)
              clear hK K
              try simp only [act_all]
              refine wpAnyH_done (by kernel_rfl) ?_ _
              have HWF := Lib.hid (HWr.out.trans (HD6.mono HWr.out.size))
              obtain ⟨m0, m1, m2, m3, n0, n1, n2, n3, j0, j1, j2, j3⟩ := G2.out _ _ HD6
              have DL : Below w.heap.size w6_ w6_ := Below.refl _ _
              have l0 : w.heap.size < w6_.heap.size := by omega
              have q1 : ¬ w.heap.size = OB + 1 := by omega
              have q2 : ¬ w.heap.size = OB + 1 + 1 := by omega
              have q3 : ¬ OB + 1 = w.heap.size := by omega
              have q4 : ¬ OB + 1 + 1 = w.heap.size := by omega
              have q5 : w.heap.size ≤ OB + 1 := by omega
              have q6 : w.heap.size ≤ OB + 1 + 1 := by omega
              have wn : wrap64 ((j : Int) + 2 + 1) = (j : Int) + 2 + 1 := by simp only [wrap64]; omega
              go_wp2_with fail
              go_roundw
              case rel =>
                refine ⟨j + 1, r1, r2, z1, z2, by go_num, by omega, Lib.hid ⟨by rw [HKE.out], by rw [show sinS (j + 1) = (cis (j + 1)).im from if_neg (by omega), HKE.out]⟩, Lib.hid (HWF.out.then (by go_grown) hg), ?_, Lib.hid ?_, ?_, ?_, ?_, ?_⟩
                · first | (simp; done) | (simp; omega) | omega
                · refine ⟨?_, ?_, ?_, ?_, ?_, ?_, ?_, ?_, ?_, ?_, ?_, ?_, ?_, ?_⟩ <;> go_cell
                all_goals go_cell
              case measure => simp [intOf]; omega
            refine AllReadyH.cons (o := _) rfl (fun K hK => ?_) AllReadyH.nil
            obtain ⟨_, _, _, _, _, _, _, _⟩ := G1.out _ _ HD2
            go_simp
            refine hK.out _ _ (G0.out _ _ HD2) (fun hHeld => ?_)
            clear hK K
            try simp only [act_all]
            refine wpAnyH_ready (rs := [7]) (by kernel_rfl) (by simp) ?_
            refine AllReadyH.cons (o := _) rfl (fun K hK => ?_) AllReadyH.nil
            go_simp
            refine (rRootW_any u1 u2 0 g _ HK4.out HK5.out HD2.cell HD2.free).mono ?_
            rw [HR.out, rn_ok]
            rintro e w7_ ⟨he, hb⟩
            obtain rfl : e = .returned (.agg #[.int .i64 r1, .int .i64 r2]) := he
            have HD7 : Wk g 0 wr.heap.size wr w7_ := HD2.trans (hb.mono HD2.size)
            clear hb hHeld
            refine hK.out _ _ (G0.out _ _ HD7) (fun hHeld => ?_)
            clear hK K
            try simp only [act_all]
            refine wpAnyH_ready (rs := [13]) (by kernel_rfl) (by simp) ?_
            refine AllReadyH.cons (o := _) rfl (fun K hK => ?_) AllReadyH.nil
            go_simp
            refine (rLess_any 1073741824 1073741824 p q 0 g _ HO.out HK1.out HD7.cell HD7.free).mono ?_
            rw [H2.out, rn_ok]
            rintro e w8_ ⟨he, hb⟩
            obtain rfl : e = .returned (.agg #[.int .i64 (1073741824 - q), .int .i64 (1073741824 - p)]) := he
            have HD8 : Wk g 0 wr.heap.size wr w8_ := HD7.trans (hb.mono HD7.size)
            clear hb hHeld
            refine hK.out _ _ (G0.out _ _ HD8) (fun hHeld => ?_)
            clear hK K
            try simp only [act_all]
            refine wpAnyH_ready (rs := [14]) (by kernel_rfl) (by simp) ?_
            refine AllReadyH.cons (o := _) rfl (fun K hK => ?_) AllReadyH.nil
            go_simp
            refine (rHalf_any (1073741824 - q) (1073741824 - p) 0 g _ HK3.out HD8.cell HD8.free).mono ?_
            rw [HV.out, inR_ok HK6.out, rn_ok]
            rintro e w9_ ⟨he, hb⟩
            obtain rfl : e = .returned (.agg #[.int .i64 v1, .int .i64 v2]) := he
            have HD9 : Wk g 0 wr.heap.size wr w9_ := HD8.trans (hb.mono HD8.size)
            clear hb hHeld
            refine hK.out _ _ (G0.out _ _ HD9) (fun hHeld => ?_)
            clear hK K
            try simp only [act_all]
            refine wpAnyH_ready (rs := [15]) (by kernel_rfl) (by simp) ?_
            refine AllReadyH.cons (o := _) rfl (fun K hK => ?_) AllReadyH.nil
            go_simp
            refine (rRootW_any v1 v2 0 g _ HK6.out HK7.out HD9.cell HD9.free).mono ?_
            rw [HZ.out, rn_ok]
            rintro e w10_ ⟨he, hb⟩
            obtain rfl : e = .returned (.agg #[.int .i64 z1, .int .i64 z2]) := he
            have HD10 : Wk g 0 wr.heap.size wr w10_ := HD9.trans (hb.mono HD9.size)
            clear hb hHeld
            refine hK.out _ _ (G0.out _ _ HD10) (fun hHeld => ?_)
            clear hK K
            try simp only [act_all]
            refine wpAnyH_ready (rs := [16]) (by kernel_rfl) (by simp) ?_
            refine AllReadyH.cons (o := _) rfl (fun K hK => ?_) AllReadyH.nil
            obtain ⟨_, _⟩ := G0.out _ _ HD10
            obtain ⟨_, _, _, _, _, _, _, _⟩ := G1.out _ _ HD10
            have hzz := HD10.size
            have e1 : OB + 1 < w10_.heap.size := by omega
            have e2 : OB + 1 + 1 < w10_.heap.size := by omega
            have e3 : OB < w10_.heap.size := by omega
            go_simp
            refine hK.out _ _ (by refine ⟨?_, ?_⟩ <;> go_cell) (fun hHeld => ?_)
            clear hK K
            try simp only [act_all]
            refine wpAnyH_ready (rs := [17]) (by kernel_rfl) (by simp) ?_
            refine AllReadyH.cons (o := _) rfl (fun K hK => ?_) AllReadyH.nil
            go_simp
            refine hK.out _ _ (by refine ⟨?_, ?_⟩ <;> go_cell) (fun hHeld => ?_)
            clear hK K
            try simp only [act_all]
            refine wpAnyH_done (by kernel_rfl) ?_ _
            have HWF := Lib.hid (HWr.out.trans (HD10.mono HWr.out.size))
            obtain ⟨m0, m1, m2, m3, n0, n1, n2, n3, j0, j1, j2, j3⟩ := G2.out _ _ HD10
            have DL : Below w.heap.size w10_ w10_ := Below.refl _ _
            have l0 : w.heap.size < w10_.heap.size := by omega
            have q1 : ¬ w.heap.size = OB + 1 := by omega
            have q2 : ¬ w.heap.size = OB + 1 + 1 := by omega
            have q3 : ¬ OB + 1 = w.heap.size := by omega
            have q4 : ¬ OB + 1 + 1 = w.heap.size := by omega
            have q5 : w.heap.size ≤ OB + 1 := by omega
            have q6 : w.heap.size ≤ OB + 1 + 1 := by omega
            have wn : wrap64 ((j : Int) + 2 + 1) = (j : Int) + 2 + 1 := by simp only [wrap64]; omega
            go_wp2_with fail
            go_roundw
            case rel =>
              refine ⟨j + 1, r1, r2, z1, z2, by go_num, by omega, Lib.hid ⟨by rw [HKE.out], by rw [show sinS (j + 1) = (cis (j + 1)).im from if_neg (by omega), HKE.out]⟩, Lib.hid (HWF.out.then (by go_grown) hg), ?_, Lib.hid ?_, ?_, ?_, ?_, ?_⟩
              · first | (simp; done) | (simp; omega) | omega
              · refine ⟨?_, ?_, ?_, ?_, ?_, ?_, ?_, ?_, ?_, ?_, ?_, ?_, ?_, ?_⟩ <;> go_cell
              all_goals go_cell
            case measure => simp [intOf]; omega
          refine AllReadyH.cons (o := _) rfl (fun K hK => ?_) AllReadyH.nil
          obtain ⟨_, _, _, _, _, _, _, _⟩ := G1.out _ _ HD1
          go_simp
          refine hK.out _ _ (G0.out _ _ HD1) (fun hHeld => ?_)
          clear hK K
          try simp only [act_all]
          refine wpAnyH_ready (rs := [6]) (by kernel_rfl) (by simp) ?_
          refine AllReadyH.cons (o := _) rfl (fun K hK => ?_) AllReadyH.nil
          go_simp
          refine (rHalf_any (1073741824 + p) (1073741824 + q) 0 g _ HK2.out HD1.cell HD1.free).mono ?_
          rw [HU.out, inR_ok HK4.out, rn_ok]
          rintro e w11_ ⟨he, hb⟩
          obtain rfl : e = .returned (.agg #[.int .i64 u1, .int .i64 u2]) := he
          have HD11 : Wk g 0 wr.heap.size wr w11_ := HD1.trans (hb.mono HD1.size)
          clear hb hHeld
          refine hK.out _ _ (G0.out _ _ HD11) (fun hHeld => ?_)
          clear hK K
          try simp only [act_all]
          refine wpAnyH_ready (rs := [7]) (by kernel_rfl) (by simp) ?_
          refine AllReadyH.cons (o := _) rfl (fun K hK => ?_) AllReadyH.nil
          go_simp
          refine (rRootW_any u1 u2 0 g _ HK4.out HK5.out HD11.cell HD11.free).mono ?_
          rw [HR.out, rn_ok]
          rintro e w12_ ⟨he, hb⟩
          obtain rfl : e = .returned (.agg #[.int .i64 r1, .int .i64 r2]) := he
          have HD12 : Wk g 0 wr.heap.size wr w12_ := HD11.trans (hb.mono HD11.size)
          clear hb hHeld
          refine hK.out _ _ (G0.out _ _ HD12) (fun hHeld => ?_)
          clear hK K
          try simp only [act_all]
          refine wpAnyH_ready (rs := [13]) (by kernel_rfl) (by simp) ?_
          refine AllReadyH.cons (o := _) rfl (fun K hK => ?_) AllReadyH.nil
          go_simp
          refine (rLess_any 1073741824 1073741824 p q 0 g _ HO.out HK1.out HD12.cell HD12.free).mono ?_
          rw [H2.out, rn_ok]
          rintro e w13_ ⟨he, hb⟩
          obtain rfl : e = .returned (.agg #[.int .i64 (1073741824 - q), .int .i64 (1073741824 - p)]) := he
          have HD13 : Wk g 0 wr.heap.size wr w13_ := HD12.trans (hb.mono HD12.size)
          clear hb hHeld
          refine hK.out _ _ (G0.out _ _ HD13) (fun hHeld => ?_)
          clear hK K
          try simp only [act_all]
          refine wpAnyH_ready (rs := [14]) (by kernel_rfl) (by simp) ?_
          refine AllReadyH.cons (o := _) rfl (fun K hK => ?_) AllReadyH.nil
          go_simp
          refine (rHalf_any (1073741824 - q) (1073741824 - p) 0 g _ HK3.out HD13.cell HD13.free).mono ?_
          rw [HV.out, inR_ok HK6.out, rn_ok]
          rintro e w14_ ⟨he, hb⟩
          obtain rfl : e = .returned (.agg #[.int .i64 v1, .int .i64 v2]) := he
          have HD14 : Wk g 0 wr.heap.size wr w14_ := HD13.trans (hb.mono HD13.size)
          clear hb hHeld
          refine hK.out _ _ (G0.out _ _ HD14) (fun hHeld => ?_)
          clear hK K
          try simp only [act_all]
          refine wpAnyH_ready (rs := [15]) (by kernel_rfl) (by simp) ?_
          refine AllReadyH.cons (o := _) rfl (fun K hK => ?_) AllReadyH.nil
          go_simp
          refine (rRootW_any v1 v2 0 g _ HK6.out HK7.out HD14.cell HD14.free).mono ?_
          rw [HZ.out, rn_ok]
          rintro e w15_ ⟨he, hb⟩
          obtain rfl : e = .returned (.agg #[.int .i64 z1, .int .i64 z2]) := he
          have HD15 : Wk g 0 wr.heap.size wr w15_ := HD14.trans (hb.mono HD14.size)
          clear hb hHeld
          refine hK.out _ _ (G0.out _ _ HD15) (fun hHeld => ?_)
          clear hK K
          try simp only [act_all]
          refine wpAnyH_ready (rs := [16]) (by kernel_rfl) (by simp) ?_
          refine AllReadyH.cons (o := _) rfl (fun K hK => ?_) AllReadyH.nil
          obtain ⟨_, _⟩ := G0.out _ _ HD15
          obtain ⟨_, _, _, _, _, _, _, _⟩ := G1.out _ _ HD15
          have hzz := HD15.size
          have e1 : OB + 1 < w15_.heap.size := by omega
          have e2 : OB + 1 + 1 < w15_.heap.size := by omega
          have e3 : OB < w15_.heap.size := by omega
          go_simp
          refine hK.out _ _ (by refine ⟨?_, ?_⟩ <;> go_cell) (fun hHeld => ?_)
          clear hK K
          try simp only [act_all]
          refine wpAnyH_ready (rs := [17]) (by kernel_rfl) (by simp) ?_
          refine AllReadyH.cons (o := _) rfl (fun K hK => ?_) AllReadyH.nil
          go_simp
          refine hK.out _ _ (by refine ⟨?_, ?_⟩ <;> go_cell) (fun hHeld => ?_)
          clear hK K
          try simp only [act_all]
          refine wpAnyH_done (by kernel_rfl) ?_ _
          have HWF := Lib.hid (HWr.out.trans (HD15.mono HWr.out.size))
          obtain ⟨m0, m1, m2, m3, n0, n1, n2, n3, j0, j1, j2, j3⟩ := G2.out _ _ HD15
          have DL : Below w.heap.size w15_ w15_ := Below.refl _ _
          have l0 : w.heap.size < w15_.heap.size := by omega
          have q1 : ¬ w.heap.size = OB + 1 := by omega
          have q2 : ¬ w.heap.size = OB + 1 + 1 := by omega
          have q3 : ¬ OB + 1 = w.heap.size := by omega
          have q4 : ¬ OB + 1 + 1 = w.heap.size := by omega
          have q5 : w.heap.size ≤ OB + 1 := by omega
          have q6 : w.heap.size ≤ OB + 1 + 1 := by omega
          have wn : wrap64 ((j : Int) + 2 + 1) = (j : Int) + 2 + 1 := by simp only [wrap64]; omega
          go_wp2_with fail
          go_roundw
          case rel =>
            refine ⟨j + 1, r1, r2, z1, z2, by go_num, by omega, Lib.hid ⟨by rw [HKE.out], by rw [show sinS (j + 1) = (cis (j + 1)).im from if_neg (by omega), HKE.out]⟩, Lib.hid (HWF.out.then (by go_grown) hg), ?_, Lib.hid ?_, ?_, ?_, ?_, ?_⟩
            · first | (simp; done) | (simp; omega) | omega
            · refine ⟨?_, ?_, ?_, ?_, ?_, ?_, ?_, ?_, ?_, ?_, ?_, ?_, ?_, ?_⟩ <;> go_cell
            all_goals go_cell
          case measure => simp [intOf]; omega
        refine AllReadyH.cons (o := _) rfl (fun K hK => ?_) AllReadyH.nil
        obtain ⟨_, _, _, _, _, _, _, _⟩ := G1.out _ _ HD0
        go_simp
        refine hK.out _ _ (G0.out _ _ HD0) (fun hHeld => ?_)
        clear hK K
        try simp only [act_all]
        refine wpAnyH_ready (rs := [5]) (by kernel_rfl) (by simp) ?_
        refine AllReadyH.cons (o := _) rfl (fun K hK => ?_) AllReadyH.nil
        go_simp
        refine (rSum_any 1073741824 1073741824 p q 0 g _ HO.out HK1.out HD0.cell HD0.free).mono ?_
        rw [H1.out, rn_ok]
        rintro e w16_ ⟨he, hb⟩
        obtain rfl : e = .returned (.agg #[.int .i64 (1073741824 + p), .int .i64 (1073741824 + q)]) := he
        have HD16 : Wk g 0 wr.heap.size wr w16_ := HD0.trans (hb.mono HD0.size)
        clear hb hHeld
        refine hK.out _ _ (G0.out _ _ HD16) (fun hHeld => ?_)
        clear hK K
        try simp only [act_all]
        refine wpAnyH_ready (rs := [6]) (by kernel_rfl) (by simp) ?_
        refine AllReadyH.cons (o := _) rfl (fun K hK => ?_) AllReadyH.nil
        go_simp
        refine (rHalf_any (1073741824 + p) (1073741824 + q) 0 g _ HK2.out HD16.cell HD16.free).mono ?_
        rw [HU.out, inR_ok HK4.out, rn_ok]
        rintro e w17_ ⟨he, hb⟩
        obtain rfl : e = .returned (.agg #[.int .i64 u1, .int .i64 u2]) := he
        have HD17 : Wk g 0 wr.heap.size wr w17_ := HD16.trans (hb.mono HD16.size)
        clear hb hHeld
        refine hK.out _ _ (G0.out _ _ HD17) (fun hHeld => ?_)
        clear hK K
        try simp only [act_all]
        refine wpAnyH_ready (rs := [7]) (by kernel_rfl) (by simp) ?_
        refine AllReadyH.cons (o := _) rfl (fun K hK => ?_) AllReadyH.nil
        go_simp
        refine (rRootW_any u1 u2 0 g _ HK4.out HK5.out HD17.cell HD17.free).mono ?_
        rw [HR.out, rn_ok]
        rintro e w18_ ⟨he, hb⟩
        obtain rfl : e = .returned (.agg #[.int .i64 r1, .int .i64 r2]) := he
        have HD18 : Wk g 0 wr.heap.size wr w18_ := HD17.trans (hb.mono HD17.size)
        clear hb hHeld
        refine hK.out _ _ (G0.out _ _ HD18) (fun hHeld => ?_)
        clear hK K
        try simp only [act_all]
        refine wpAnyH_ready (rs := [13]) (by kernel_rfl) (by simp) ?_
        refine AllReadyH.cons (o := _) rfl (fun K hK => ?_) AllReadyH.nil
        go_simp
        refine (rLess_any 1073741824 1073741824 p q 0 g _ HO.out HK1.out HD18.cell HD18.free).mono ?_
        rw [H2.out, rn_ok]
        rintro e w19_ ⟨he, hb⟩
        obtain rfl : e = .returned (.agg #[.int .i64 (1073741824 - q), .int .i64 (1073741824 - p)]) := he
        have HD19 : Wk g 0 wr.heap.size wr w19_ := HD18.trans (hb.mono HD18.size)
        clear hb hHeld
        refine hK.out _ _ (G0.out _ _ HD19) (fun hHeld => ?_)
        clear hK K
        try simp only [act_all]
        refine wpAnyH_ready (rs := [14]) (by kernel_rfl) (by simp) ?_
        refine AllReadyH.cons (o := _) rfl (fun K hK => ?_) AllReadyH.nil
        go_simp
        refine (rHalf_any (1073741824 - q) (1073741824 - p) 0 g _ HK3.out HD19.cell HD19.free).mono ?_
        rw [HV.out, inR_ok HK6.out, rn_ok]
        rintro e w20_ ⟨he, hb⟩
        obtain rfl : e = .returned (.agg #[.int .i64 v1, .int .i64 v2]) := he
        have HD20 : Wk g 0 wr.heap.size wr w20_ := HD19.trans (hb.mono HD19.size)
        clear hb hHeld
        refine hK.out _ _ (G0.out _ _ HD20) (fun hHeld => ?_)
        clear hK K
        try simp only [act_all]
        refine wpAnyH_ready (rs := [15]) (by kernel_rfl) (by simp) ?_
        refine AllReadyH.cons (o := _) rfl (fun K hK => ?_) AllReadyH.nil
        go_simp
        refine (rRootW_any v1 v2 0 g _ HK6.out HK7.out HD20.cell HD20.free).mono ?_
        rw [HZ.out, rn_ok]
        rintro e w21_ ⟨he, hb⟩
        obtain rfl : e = .returned (.agg #[.int .i64 z1, .int .i64 z2]) := he
        have HD21 : Wk g 0 wr.heap.size wr w21_ := HD20.trans (hb.mono HD20.size)
        clear hb hHeld
        refine hK.out _ _ (G0.out _ _ HD21) (fun hHeld => ?_)
        clear hK K
        try simp only [act_all]
        refine wpAnyH_ready (rs := [16]) (by kernel_rfl) (by simp) ?_
        refine AllReadyH.cons (o := _) rfl (fun K hK => ?_) AllReadyH.nil
        obtain ⟨_, _⟩ := G0.out _ _ HD21
        obtain ⟨_, _, _, _, _, _, _, _⟩ := G1.out _ _ HD21
        have hzz := HD21.size
        have e1 : OB + 1 < w21_.heap.size := by omega
        have e2 : OB + 1 + 1 < w21_.heap.size := by omega
        have e3 : OB < w21_.heap.size := by omega
        go_simp
        refine hK.out _ _ (by refine ⟨?_, ?_⟩ <;> go_cell) (fun hHeld => ?_)
        clear hK K
        try simp only [act_all]
        refine wpAnyH_ready (rs := [17]) (by kernel_rfl) (by simp) ?_
        refine AllReadyH.cons (o := _) rfl (fun K hK => ?_) AllReadyH.nil
        go_simp
        refine hK.out _ _ (by refine ⟨?_, ?_⟩ <;> go_cell) (fun hHeld => ?_)
        clear hK K
        try simp only [act_all]
        refine wpAnyH_done (by kernel_rfl) ?_ _
        have HWF := Lib.hid (HWr.out.trans (HD21.mono HWr.out.size))
        obtain ⟨m0, m1, m2, m3, n0, n1, n2, n3, j0, j1, j2, j3⟩ := G2.out _ _ HD21
        have DL : Below w.heap.size w21_ w21_ := Below.refl _ _
        have l0 : w.heap.size < w21_.heap.size := by omega
        have q1 : ¬ w.heap.size = OB + 1 := by omega
        have q2 : ¬ w.heap.size = OB + 1 + 1 := by omega
        have q3 : ¬ OB + 1 = w.heap.size := by omega
        have q4 : ¬ OB + 1 + 1 = w.heap.size := by omega
        have q5 : w.heap.size ≤ OB + 1 := by omega
        have q6 : w.heap.size ≤ OB + 1 + 1 := by omega
        have wn : wrap64 ((j : Int) + 2 + 1) = (j : Int) + 2 + 1 := by simp only [wrap64]; omega
        go_wp2_with fail
        go_roundw
        case rel =>
          refine ⟨j + 1, r1, r2, z1, z2, by go_num, by omega, Lib.hid ⟨by rw [HKE.out], by rw [show sinS (j + 1) = (cis (j + 1)).im from if_neg (by omega), HKE.out]⟩, Lib.hid (HWF.out.then (by go_grown) hg), ?_, Lib.hid ?_, ?_, ?_, ?_, ?_⟩
          · first | (simp; done) | (simp; omega) | omega
          · refine ⟨?_, ?_, ?_, ?_, ?_, ?_, ?_, ?_, ?_, ?_, ?_, ?_, ?_, ?_⟩ <;> go_cell
          all_goals go_cell
        case measure => simp [intOf]; omega
      refine AllReadyH.cons (o := _) rfl (fun K hK => ?_) AllReadyH.nil
      obtain ⟨_, _, _, _, _, _, _, _⟩ := G1.out _ _ HD0
      go_simp
      refine hK.out _ _ (G0.out _ _ HD0) (fun hHeld => ?_)
      clear hK K
      try simp only [act_all]
      refine wpAnyH_ready (rs := [4]) (by kernel_rfl) (by simp) ?_
      refine AllReadyH.cons (o := _) rfl (fun K hK => ?_) AllReadyH.nil
      obtain ⟨_, _, _, _, _, _, _, _⟩ := G1.out _ _ HD0
      go_simp
      refine hK.out _ _ (G0.out _ _ HD0) (fun hHeld => ?_)
      clear hK K
      try simp only [act_all]
      refine wpAnyH_ready (rs := [5]) (by kernel_rfl) (by simp) ?_
      refine AllReadyH.cons (o := _) rfl (fun K hK => ?_) AllReadyH.nil
      go_simp
      refine (rSum_any 1073741824 1073741824 p q 0 g _ HO.out HK1.out HD0.cell HD0.free).mono ?_
      rw [H1.out, rn_ok]
      rintro e w22_ ⟨he, hb⟩
      obtain rfl : e = .returned (.agg #[.int .i64 (1073741824 + p), .int .i64 (1073741824 + q)]) := he
      have HD22 : Wk g 0 wr.heap.size wr w22_ := HD0.trans (hb.mono HD0.size)
      clear hb hHeld
      refine hK.out _ _ (G0.out _ _ HD22) (fun hHeld => ?_)
      clear hK K
      try simp only [act_all]
      refine wpAnyH_ready (rs := [6]) (by kernel_rfl) (by simp) ?_
      refine AllReadyH.cons (o := _) rfl (fun K hK => ?_) AllReadyH.nil
      go_simp
      refine (rHalf_any (1073741824 + p) (1073741824 + q) 0 g _ HK2.out HD22.cell HD22.free).mono ?_
      rw [HU.out, inR_ok HK4.out, rn_ok]
      rintro e w23_ ⟨he, hb⟩
      obtain rfl : e = .returned (.agg #[.int .i64 u1, .int .i64 u2]) := he
      have HD23 : Wk g 0 wr.heap.size wr w23_ := HD22.trans (hb.mono HD22.size)
      clear hb hHeld
      refine hK.out _ _ (G0.out _ _ HD23) (fun hHeld => ?_)
      clear hK K
      try simp only [act_all]
      refine wpAnyH_ready (rs := [7]) (by kernel_rfl) (by simp) ?_
      refine AllReadyH.cons (o := _) rfl (fun K hK => ?_) AllReadyH.nil
      go_simp
      refine (rRootW_any u1 u2 0 g _ HK4.out HK5.out HD23.cell HD23.free).mono ?_
      rw [HR.out, rn_ok]
      rintro e w24_ ⟨he, hb⟩
      obtain rfl : e = .returned (.agg #[.int .i64 r1, .int .i64 r2]) := he
      have HD24 : Wk g 0 wr.heap.size wr w24_ := HD23.trans (hb.mono HD23.size)
      clear hb hHeld
      refine hK.out _ _ (G0.out _ _ HD24) (fun hHeld => ?_)
      clear hK K
      try simp only [act_all]
      refine wpAnyH_ready (rs := [13]) (by kernel_rfl) (by simp) ?_
      refine AllReadyH.cons (o := _) rfl (fun K hK => ?_) AllReadyH.nil
      go_simp
      refine (rLess_any 1073741824 1073741824 p q 0 g _ HO.out HK1.out HD24.cell HD24.free).mono ?_
      rw [H2.out, rn_ok]
      rintro e w25_ ⟨he, hb⟩
      obtain rfl : e = .returned (.agg #[.int .i64 (1073741824 - q), .int .i64 (1073741824 - p)]) := he
      have HD25 : Wk g 0 wr.heap.size wr w25_ := HD24.trans (hb.mono HD24.size)
      clear hb hHeld
      refine hK.out _ _ (G0.out _ _ HD25) (fun hHeld => ?_)
      clear hK K
      try simp only [act_all]
      refine wpAnyH_ready (rs := [14]) (by kernel_rfl) (by simp) ?_
      refine AllReadyH.cons (o := _) rfl (fun K hK => ?_) AllReadyH.nil
      go_simp
      refine (rHalf_any (1073741824 - q) (1073741824 - p) 0 g _ HK3.out HD25.cell HD25.free).mono ?_
      rw [HV.out, inR_ok HK6.out, rn_ok]
      rintro e w26_ ⟨he, hb⟩
      obtain rfl : e = .returned (.agg #[.int .i64 v1, .int .i64 v2]) := he
      have HD26 : Wk g 0 wr.heap.size wr w26_ := HD25.trans (hb.mono HD25.size)
      clear hb hHeld
      refine hK.out _ _ (G0.out _ _ HD26) (fun hHeld => ?_)
      clear hK K
      try simp only [act_all]
      refine wpAnyH_ready (rs := [15]) (by kernel_rfl) (by simp) ?_
      refine AllReadyH.cons (o := _) rfl (fun K hK => ?_) AllReadyH.nil
      go_simp
      refine (rRootW_any v1 v2 0 g _ HK6.out HK7.out HD26.cell HD26.free).mono ?_
      rw [HZ.out, rn_ok]
      rintro e w27_ ⟨he, hb⟩
      obtain rfl : e = .returned (.agg #[.int .i64 z1, .int .i64 z2]) := he
      have HD27 : Wk g 0 wr.heap.size wr w27_ := HD26.trans (hb.mono HD26.size)
      clear hb hHeld
      refine hK.out _ _ (G0.out _ _ HD27) (fun hHeld => ?_)
      clear hK K
      try simp only [act_all]
      refine wpAnyH_ready (rs := [16]) (by kernel_rfl) (by simp) ?_
      refine AllReadyH.cons (o := _) rfl (fun K hK => ?_) AllReadyH.nil
      obtain ⟨_, _⟩ := G0.out _ _ HD27
      obtain ⟨_, _, _, _, _, _, _, _⟩ := G1.out _ _ HD27
      have hzz := HD27.size
      have e1 : OB + 1 < w27_.heap.size := by omega
      have e2 : OB + 1 + 1 < w27_.heap.size := by omega
      have e3 : OB < w27_.heap.size := by omega
      go_simp
      refine hK.out _ _ (by refine ⟨?_, ?_⟩ <;> go_cell) (fun hHeld => ?_)
      clear hK K
      try simp only [act_all]
      refine wpAnyH_ready (rs := [17]) (by kernel_rfl) (by simp) ?_
      refine AllReadyH.cons (o := _) rfl (fun K hK => ?_) AllReadyH.nil
      go_simp
      refine hK.out _ _ (by refine ⟨?_, ?_⟩ <;> go_cell) (fun hHeld => ?_)
      clear hK K
      try simp only [act_all]
      refine wpAnyH_done (by kernel_rfl) ?_ _
      have HWF := Lib.hid (HWr.out.trans (HD27.mono HWr.out.size))
      obtain ⟨m0, m1, m2, m3, n0, n1, n2, n3, j0, j1, j2, j3⟩ := G2.out _ _ HD27
      have DL : Below w.heap.size w27_ w27_ := Below.refl _ _
      have l0 : w.heap.size < w27_.heap.size := by omega
      have q1 : ¬ w.heap.size = OB + 1 := by omega
      have q2 : ¬ w.heap.size = OB + 1 + 1 := by omega
      have q3 : ¬ OB + 1 = w.heap.size := by omega
      have q4 : ¬ OB + 1 + 1 = w.heap.size := by omega
      have q5 : w.heap.size ≤ OB + 1 := by omega
      have q6 : w.heap.size ≤ OB + 1 + 1 := by omega
      have wn : wrap64 ((j : Int) + 2 + 1) = (j : Int) + 2 + 1 := by simp only [wrap64]; omega
      go_wp2_with fail
      go_roundw
      case rel =>
        refine ⟨j + 1, r1, r2, z1, z2, by go_num, by omega, Lib.hid ⟨by rw [HKE.out], by rw [show sinS (j + 1) = (cis (j + 1)).im from if_neg (by omega), HKE.out]⟩, Lib.hid (HWF.out.then (by go_grown) hg), ?_, Lib.hid ?_, ?_, ?_, ?_, ?_⟩
        · first | (simp; done) | (simp; omega) | omega
        · refine ⟨?_, ?_, ?_, ?_, ?_, ?_, ?_, ?_, ?_, ?_, ?_, ?_, ?_, ?_⟩ <;> go_cell
        all_goals go_cell
      case measure => simp [intOf]; omega
    · obtain rfl : k = j + 2 := by omega
      have HS : Hid (cis (j + 2 - 2) = ⟨⟨p, q⟩, ⟨s, t⟩⟩) := Lib.hid (Rc.ext' (by rw [show j + 2 - 2 = j by omega, HX.out.1]) (by rw [show j + 2 - 2 = j by omega, ← HX.out.2]; exact (if_neg (by omega)).symm))
      obtain ⟨o0, o1, d0, d1, d2, d3, f0, f1, f2, f3, g10, g11, g20, g21⟩ := HF.out
      have hwl := HWr.out.size
      have e1 : OB + 1 < wr.heap.size := by omega
      have e0 : w.heap.size < wr.heap.size := by omega
      have DL : Below w.heap.size wr wr := Below.refl _ _
      go_wp2_with fail
      refine bodyPost_ret (v := .agg #[.int .i64 p, .int .i64 q, .int .i64 s, .int .i64 t]) (by simp [results, Try.results77, go_sem, *]) rfl ⟨by rw [HS.out]; rfl, HWr.out.then (by go_grown) hg⟩
end Go.Proofs.Ytilclpldfoifkaa

namespace Go.Proofs.Ytilclpldfoifkaa
open Go.RowKit Encl
theorem rPoint_at (x : Int) (k : Nat) (g : Nat) (w : World) (hx : x = (k : Int)) (h3 : 3 ≤ k) (h10 : k ≤ 10) (hc : w.cell? ⟨g, 0, none⟩ = some (.int .i64 0)) (hf : w.frozen? ⟨g, 0, none⟩ = false) :
    Calls Try.prog 77 #[.pointer (some ⟨g, 0, none⟩), .int .i64 x] w fun e w' => e = retR (cis (k - 2)) ∧ Wk g 0 w.heap.size w w' := by
  subst hx
  exact rPoint_any k g w h3 h10 hc hf
theorem mulW_of_ok {x y z : Rc} (h : mulR x y = .ok z) : mulW 0 x y = (z, 0) := by
  have := (mulW_eq x y).1
  rw [h] at this
  exact this

set_option maxRecDepth 100000 in
set_option maxHeartbeats 8000000 in
theorem rUnit_any (n : Int) (w : World) (hn0 : -9223372036854775808 ≤ n) (hn1 : n ≤ 9223372036854775807) :
    Calls Try.prog 37 #[.int .i64 n] w fun e w' => e = OutR (unitS n) ∧ Below w.heap.size w w' := by
  obtain ⟨u, hu, _, _⟩ := unit_near n
  have HSP0 := Lib.hid hu
  rw [hu]
  clear hu
  obtain ⟨N, hN⟩ : ∃ N, n % 1024 = N := ⟨_, rfl⟩
  have HSP : Hid (unitGo N 10 ⟨⟨1073741824, 1073741824⟩, ⟨0, 0⟩⟩ = .ok u) := Lib.hid (by
    rw [← HSP0.out, ← hN]
    exact unitGo_mod n 10 _ (by omega))
  have HN : Hid (0 ≤ N ∧ N < 1024) := Lib.hid (by omega)
  obtain ⟨m1, hm1⟩ : ∃ m, n.tmod 1024 = m := ⟨_, rfl⟩
  have hm : (m1 + 1024).tmod 1024 = N ∧ -1024 < m1 ∧ m1 < 1024 := by
    have t1 := Int.mul_tdiv_add_tmod n 1024
    have t2 := Int.tmod_lt_of_pos n (show (0 : Int) < 1024 by omega)
    have t3 : -1024 < n.tmod 1024 := Int.lt_tmod_of_pos n (by omega)
    rw [hm1] at t1 t2 t3
    refine ⟨?_, t3, t2⟩
    rw [Int.tmod_eq_emod_of_nonneg (by omega), ← hN]
    omega
  obtain ⟨hm2, hm3, hm4⟩ := hm
  have wm : wrap64 (m1 + 1024) = m1 + 1024 := by simp only [wrap64]; omega
  have wm1 : wrap64 m1 = m1 := by simp only [wrap64]; omega
  have wN : wrap64 N = N := by have := HN.out; simp only [wrap64]; omega
  clear hN HSP0
  go_enter Try.func37, Try.ntmps37
  go_wp2_with fail
  refine (rWhole_any 1 _ (by omega) (by omega)).mono ?_
  rw [show (1 : Int) * 1073741824 = 1073741824 from rfl]
  rintro e w1 ⟨he, hb⟩
  obtain rfl : e = .returned (.agg #[.int .i64 1073741824, .int .i64 1073741824, .int .i64 0, .int .i64 0]) := he
  have D1 : Below w.heap.size w w1 := Below.trans (by go_grown) (hb.mono (by first | omega | (simp; done) | (simp; omega)))
  have s1 : w.heap.size + 1 < w1.heap.size := by have hs := hb.size; (try simp at hs); omega
  have s1a : w.heap.size < w1.heap.size := by omega
  obtain ⟨k1, k2⟩ := bcl hb
  have d0 := (k1 w.heap.size 0 (by first | omega | (simp; done) | (simp; omega))).trans (by go_cell : _ = some (.int .i64 0))
  have f0 := (k2 w.heap.size 0 (by first | omega | (simp; done) | (simp; omega))).trans (by go_cell : _ = false)
  have d1 := (k1 w.heap.size 1 (by first | omega | (simp; done) | (simp; omega))).trans (by go_cell : _ = some (.int .i64 0))
  have f1 := (k2 w.heap.size 1 (by first | omega | (simp; done) | (simp; omega))).trans (by go_cell : _ = false)
  have d2 := (k1 w.heap.size 2 (by first | omega | (simp; done) | (simp; omega))).trans (by go_cell : _ = some (.int .i64 0))
  have f2 := (k2 w.heap.size 2 (by first | omega | (simp; done) | (simp; omega))).trans (by go_cell : _ = false)
  have d3 := (k1 w.heap.size 3 (by first | omega | (simp; done) | (simp; omega))).trans (by go_cell : _ = some (.int .i64 0))
  have f3 := (k2 w.heap.size 3 (by first | omega | (simp; done) | (simp; omega))).trans (by go_cell : _ = false)
  have gc := (k1 (w.heap.size + 1) 0 (by simp)).trans (by go_cell : _ = some (.int .i64 0))
  have gf := (k2 (w.heap.size + 1) 0 (by simp)).trans (by go_cell : _ = false)
  clear hb k1 k2
  go_upto_block 0 with fail
  have b3 : Below w1.heap.size w1 (w1.alloc (Obj.cells #[.int .i64 1073741824, .int .i64 1073741824, .int .i64 0, .int .i64 0] 25)) := bal (Below.refl _ _) _
  have DW := D1.trans (b3.mono D1.size)
  have z0 : (w1.alloc (Obj.cells #[.int .i64 1073741824, .int .i64 1073741824, .int .i64 0, .int .i64 0] 25)).cell? ⟨w1.heap.size, 0, none⟩ = some (.int .i64 1073741824) := by go_cell
  have y0 : (w1.alloc (Obj.cells #[.int .i64 1073741824, .int .i64 1073741824, .int .i64 0, .int .i64 0] 25)).frozen? ⟨w1.heap.size, 0, none⟩ = false := by go_cell
  have dd0 := (b3.cell (p := ⟨w.heap.size, 0, none⟩) s1a).trans d0
  have ff0 := (b3.frozen (p := ⟨w.heap.size, 0, none⟩) s1a).trans f0
  have z1 : (w1.alloc (Obj.cells #[.int .i64 1073741824, .int .i64 1073741824, .int .i64 0, .int .i64 0] 25)).cell? ⟨w1.heap.size, 1, none⟩ = some (.int .i64 1073741824) := by go_cell
  have y1 : (w1.alloc (Obj.cells #[.int .i64 1073741824, .int .i64 1073741824, .int .i64 0, .int .i64 0] 25)).frozen? ⟨w1.heap.size, 1, none⟩ = false := by go_cell
  have dd1 := (b3.cell (p := ⟨w.heap.size, 1, none⟩) s1a).trans d1
  have ff1 := (b3.frozen (p := ⟨w.heap.size, 1, none⟩) s1a).trans f1
  have z2 : (w1.alloc (Obj.cells #[.int .i64 1073741824, .int .i64 1073741824, .int .i64 0, .int .i64 0] 25)).cell? ⟨w1.heap.size, 2, none⟩ = some (.int .i64 0) := by go_cell
  have y2 : (w1.alloc (Obj.cells #[.int .i64 1073741824, .int .i64 1073741824, .int .i64 0, .int .i64 0] 25)).frozen? ⟨w1.heap.size, 2, none⟩ = false := by go_cell
  have dd2 := (b3.cell (p := ⟨w.heap.size, 2, none⟩) s1a).trans d2
  have ff2 := (b3.frozen (p := ⟨w.heap.size, 2, none⟩) s1a).trans f2
  have z3 : (w1.alloc (Obj.cells #[.int .i64 1073741824, .int .i64 1073741824, .int .i64 0, .int .i64 0] 25)).cell? ⟨w1.heap.size, 3, none⟩ = some (.int .i64 0) := by go_cell
  have y3 : (w1.alloc (Obj.cells #[.int .i64 1073741824, .int .i64 1073741824, .int .i64 0, .int .i64 0] 25)).frozen? ⟨w1.heap.size, 3, none⟩ = false := by go_cell
  have dd3 := (b3.cell (p := ⟨w.heap.size, 3, none⟩) s1a).trans d3
  have ff3 := (b3.frozen (p := ⟨w.heap.size, 3, none⟩) s1a).trans f3
  have gg := (b3.cell (p := ⟨w.heap.size + 1, 0, none⟩) s1).trans gc
  have gh := (b3.frozen (p := ⟨w.heap.size + 1, 0, none⟩) s1).trans gf
  have sz : w1.heap.size < (w1.alloc (Obj.cells #[.int .i64 1073741824, .int .i64 1073741824, .int .i64 0, .int .i64 0] 25)).heap.size := by simp
  clear b3 D1 gc gf d0 d1 d2 d3 f0 f1 f2 f3
  generalize (w1.alloc (Obj.cells #[.int .i64 1073741824, .int .i64 1073741824, .int .i64 0, .int .i64 0] 25)) = W0 at *
  generalize w1.heap.size = ZB at *
  go_wp2_with fail
  go_loopw [6] (fun bv wr => ∃ (zc : Int) (m : Nat) (p q s t : Int), bv = .int .i64 zc ∧ zc = (m : Int) - 1 ∧ m ≤ 10 ∧ Hid (unitGo N m ⟨⟨p, q⟩, ⟨s, t⟩⟩ = .ok u) ∧ Hid (okS ⟨p, q⟩ = true ∧ okS ⟨s, t⟩ = true) ∧ Hid (Below w.heap.size w wr) ∧ ZB < wr.heap.size ∧ Hid (wr.cell? ⟨w.heap.size, 0, none⟩ = some (.int .i64 0) ∧ wr.cell? ⟨w.heap.size, 1, none⟩ = some (.int .i64 0) ∧ wr.cell? ⟨w.heap.size, 2, none⟩ = some (.int .i64 0) ∧ wr.cell? ⟨w.heap.size, 3, none⟩ = some (.int .i64 0) ∧ wr.frozen? ⟨w.heap.size, 0, none⟩ = false ∧ wr.frozen? ⟨w.heap.size, 1, none⟩ = false ∧ wr.frozen? ⟨w.heap.size, 2, none⟩ = false ∧ wr.frozen? ⟨w.heap.size, 3, none⟩ = false ∧ wr.cell? ⟨w.heap.size + 1, 0, none⟩ = some (.int .i64 0) ∧ wr.frozen? ⟨w.heap.size + 1, 0, none⟩ = false ∧ wr.frozen? ⟨ZB, 0, none⟩ = false ∧ wr.frozen? ⟨ZB, 1, none⟩ = false ∧ wr.frozen? ⟨ZB, 2, none⟩ = false ∧ wr.frozen? ⟨ZB, 3, none⟩ = false ∧ wr.cell? ⟨ZB, 0, none⟩ = some (.int .i64 p) ∧ wr.cell? ⟨ZB, 1, none⟩ = some (.int .i64 q) ∧ wr.cell? ⟨ZB, 2, none⟩ = some (.int .i64 s) ∧ wr.cell? ⟨ZB, 3, none⟩ = some (.int .i64 t))) (fun bv _ => (intOf bv + 1).toNat)
  case atStart => exact ⟨9, 10, _, _, _, _, rfl, by omega, by omega, HSP, Lib.hid (by decide), Lib.hid DW, sz, Lib.hid ⟨dd0, dd1, dd2, dd3, ff0, ff1, ff2, ff3, gg, gh, y0, y1, y2, y3, z0, z1, z2, z3⟩⟩
  case round =>
    obtain ⟨zc, m, p, q, s, t, rfl, hz1, hm, HG, HK, DB, hsz, HF⟩ := hrel
    obtain ⟨d0, d1, d2, d3, f0, f1, f2, f3, gc, gf, y0, y1, y2, y3, z0, z1, z2, z3⟩ := HF.out
    have s2 : w.heap.size + 1 < wr.heap.size := by omega
    have s2a : w.heap.size < wr.heap.size := by omega
    by_cases hm0 : m = 0
    · subst hm0
      obtain rfl : zc = -1 := by omega
      clear hz1 hm
      have HU : Hid (u = ⟨⟨p, q⟩, ⟨s, t⟩⟩) := Lib.hid (by have h := HG.out; simp only [unitGo] at h; exact (Out.ok.inj h).symm)
      have hbel := DB.out
      go_wp2_with fail
      refine (rDone_any p q s t 0 (w.heap.size + 1) _ (by go_cell)).mono ?_
      rw [show fin ⟨⟨p, q⟩, ⟨s, t⟩⟩ 0 = .ok ⟨⟨p, q⟩, ⟨s, t⟩⟩ from rfl]
      rintro e w4 ⟨he, hb⟩
      obtain rfl : e = .returned (.tuple #[.agg #[.int .i64 p, .int .i64 q, .int .i64 s, .int .i64 t], .int .i64 0]) := he
      have D4 : Below w.heap.size w w4 := hbel.trans (hb.mono hbel.size)
      have s4 : w.heap.size < w4.heap.size := by have := hb.size; omega
      have vd0 := (hb.cell (p := ⟨w.heap.size, 0, none⟩) s2a).trans d0
      have vf0 := (hb.frozen (p := ⟨w.heap.size, 0, none⟩) s2a).trans f0
      have vd1 := (hb.cell (p := ⟨w.heap.size, 1, none⟩) s2a).trans d1
      have vf1 := (hb.frozen (p := ⟨w.heap.size, 1, none⟩) s2a).trans f1
      have vd2 := (hb.cell (p := ⟨w.heap.size, 2, none⟩) s2a).trans d2
      have vf2 := (hb.frozen (p := ⟨w.heap.size, 2, none⟩) s2a).trans f2
      have vd3 := (hb.cell (p := ⟨w.heap.size, 3, none⟩) s2a).trans d3
      have vf3 := (hb.frozen (p := ⟨w.heap.size, 3, none⟩) s2a).trans f3
      clear hb hbel d0 d1 d2 d3 f0 f1 f2 f3 z0 z1 z2 z3 y0 y1 y2 y3 gc gf HF DB
      go_wp2_with fail
      refine bodyPost_ret (v := .tuple #[.agg #[.int .i64 p, .int .i64 q, .int .i64 s, .int .i64 t], .int .i64 0]) (by simp [results, Try.results37, go_sem, *]) rfl ⟨by rw [HU.out]; rfl, by go_grown⟩
    · obtain ⟨b, rfl⟩ : ∃ b, m = b + 1 := ⟨m - 1, by omega⟩
      obtain rfl : zc = (b : Int) := by omega
      clear hz1 hm0
      have hb9 : (b : Int) < 10 := by omega
      have hb0 : 0 ≤ (b : Int) := by omega
      by_cases hbit : N / 2 ^ b % 2 = 1
      case neg =>
        have e1 : bits .and .i64 (N / 2 ^ b) 1 = 0 := by rw [and1]; omega
        have HU2 : Hid (unitGo N b ⟨⟨p, q⟩, ⟨s, t⟩⟩ = .ok u) := Lib.hid (by have := HG.out; simp only [unitGo, hbit, if_false] at this; exact this)
        go_wp2_with fail
        go_roundw
        case rel => exact ⟨(b : Int) - 1, b, p, q, s, t, by go_num, by omega, by omega, HU2, HK, DB, hsz, HF⟩
        case measure => first | (simp [intOf]; done) | (simp [intOf]; omega)
      have e1 : bits .and .i64 (N / 2 ^ b) 1 = 1 := by rw [and1]; exact hbit
      obtain ⟨z, hz, HU2⟩ : ∃ z, mulR ⟨⟨p, q⟩, ⟨s, t⟩⟩ (pt b) = .ok z ∧ Hid (unitGo N b z = .ok u) := by
        have h := HG.out; simp only [unitGo, hbit, if_true] at h
        obtain ⟨z, h1, h2⟩ := bind_okI h
        exact ⟨z, h1, Lib.hid h2⟩
      have HMW := Lib.hid (mulW_of_ok hz)
      have HZK := Lib.hid ((okR_iff _).1 (mulR_ok hz))
      obtain ⟨⟨p', q'⟩, ⟨s', t'⟩⟩ := z
      clear hz hbit HG
      have hwl := DB.out.size
      have HD : Wk (w.heap.size + 1) 0 wr.heap.size wr wr := ⟨rfl, rfl, rfl, Nat.le_refl _, fun _ _ _ => rfl, gc, gf⟩
      have hgW : w.heap.size + 1 < wr.heap.size := s2
      by_cases h9 : b = 9
      · have hb1 : ((b : Int) == 9) = true := beq_iff_eq.2 (by omega)
        have HPT : Hid (pt b = ⟨⟨-1073741824, -1073741824⟩, ⟨0, 0⟩⟩) := Lib.hid (by rw [h9]; rfl)
        have H9 := Lib.hid h9
        clear h9
        rw [HPT.out] at HMW
        have HPO : Hid (okS ⟨-1073741824, -1073741824⟩ = true ∧ okS ⟨0, 0⟩ = true) := Lib.hid (by decide)
        go_upto_region 11 with fail
        have GZ : Hid (∀ (e : Int) w', Wk (w.heap.size + 1) e wr.heap.size wr w' → w'.cell? ⟨ZB, 0, none⟩ = some (.int .i64 p) ∧ w'.cell? ⟨ZB, 1, none⟩ = some (.int .i64 q) ∧ w'.cell? ⟨ZB, 2, none⟩ = some (.int .i64 s) ∧ w'.cell? ⟨ZB, 3, none⟩ = some (.int .i64 t) ∧ w'.frozen? ⟨ZB, 0, none⟩ = false ∧ w'.frozen? ⟨ZB, 1, none⟩ = false ∧ w'.frozen? ⟨ZB, 2, none⟩ = false ∧ w'.frozen? ⟨ZB, 3, none⟩ = false) := Lib.hid (fun e w' hb => by
          exact ⟨(hb.cells.1 _ 0 (by omega) (by omega)).trans z0, (hb.cells.1 _ 1 (by omega) (by omega)).trans z1, (hb.cells.1 _ 2 (by omega) (by omega)).trans z2, (hb.cells.1 _ 3 (by omega) (by omega)).trans z3, (hb.cells.2 _ 0 (by omega) (by omega)).trans y0, (hb.cells.2 _ 1 (by omega) (by omega)).trans y1, (hb.cells.2 _ 2 (by omega) (by omega)).trans y2, (hb.cells.2 _ 3 (by omega) (by omega)).trans y3⟩)
        have GR : Hid (∀ (e : Int) w', Wk (w.heap.size + 1) e wr.heap.size wr w' → w'.cell? ⟨w.heap.size, 0, none⟩ = some (.int .i64 0) ∧ w'.cell? ⟨w.heap.size, 1, none⟩ = some (.int .i64 0) ∧ w'.cell? ⟨w.heap.size, 2, none⟩ = some (.int .i64 0) ∧ w'.cell? ⟨w.heap.size, 3, none⟩ = some (.int .i64 0) ∧ w'.frozen? ⟨w.heap.size, 0, none⟩ = false ∧ w'.frozen? ⟨w.heap.size, 1, none⟩ = false ∧ w'.frozen? ⟨w.heap.size, 2, none⟩ = false ∧ w'.frozen? ⟨w.heap.size, 3, none⟩ = false ∧ w'.frozen? ⟨ZB, 0, none⟩ = false ∧ w'.frozen? ⟨ZB, 1, none⟩ = false ∧ w'.frozen? ⟨ZB, 2, none⟩ = false ∧ w'.frozen? ⟨ZB, 3, none⟩ = false) := Lib.hid (fun e w' hb => by
          exact ⟨(hb.cells.1 _ 0 (by omega) (by omega)).trans d0, (hb.cells.1 _ 1 (by omega) (by omega)).trans d1, (hb.cells.1 _ 2 (by omega) (by omega)).trans d2, (hb.cells.1 _ 3 (by omega) (by omega)).trans d3, (hb.cells.2 _ 0 (by omega) (by omega)).trans f0, (hb.cells.2 _ 1 (by omega) (by omega)).trans f1, (hb.cells.2 _ 2 (by omega) (by omega)).trans f2, (hb.cells.2 _ 3 (by omega) (by omega)).trans f3, (hb.cells.2 _ 0 (by omega) (by omega)).trans y0, (hb.cells.2 _ 1 (by omega) (by omega)).trans y1, (hb.cells.2 _ 2 (by omega) (by omega)).trans y2, (hb.cells.2 _ 3 (by omega) (by omega)).trans y3⟩)
        clear HF d0 d1 d2 d3 f0 f1 f2 f3 gc gf y0 y1 y2 y3 z0 z1 z2 z3
        have HD0 : Wk (w.heap.size + 1) 0 wr.heap.size wr wr.drew := HD.then ((Below.refl _ _).drew) hgW
        refine wp_region_held_drew (S := fun w' => w'.cell? ⟨w.heap.size + 1, 0, none⟩ = some (.int .i64 0)) (by kernel_rfl) HD0.cell (fun hHeld => ?_)
        refine wpAnyH_take (i := 0) (oi := _) (v := ?_) rfl (by kernel_rfl) (by kernel_rfl) (by kernel_rfl) (fun _ _ _ h => h) (Or.inl ⟨by rfl, ?_⟩) (by assumption) ?_
        rotate_left
        · intro w hSw; go_simp; (try with_reducible rfl)
        try change wpAnyH _ _ _ _ _ _ _ (Act.put _ (some 33) _) _
        try simp only [act_all]
        refine wpAnyH_ready (rs := [1, 2]) (by kernel_rfl) (by simp) ?_
        refine AllReadyH.cons (o := _) rfl (fun K hK => ?_) ?_
        · obtain ⟨_, _, _, _, _, _, _, _⟩ := GZ.out _ _ HD0
          go_simp
          refine hK.out _ _ HD0.cell (fun hHeld => ?_)
          clear hK K
          try simp only [act_all]
          refine wpAnyH_ready (rs := [2]) (by kernel_rfl) (by simp) ?_
          refine AllReadyH.cons (o := _) rfl (fun K hK => ?_) AllReadyH.nil
          go_simp
          refine (rWhole_any (-1) _ (by omega) (by omega)).mono ?_
          rw [show (-1 : Int) * 1073741824 = -1073741824 from rfl]
          rintro e w1_ ⟨he, hb⟩
          obtain rfl : e = .returned (.agg #[.int .i64 (-1073741824), .int .i64 (-1073741824), .int .i64 0, .int .i64 0]) := he
          have HD1 : Wk (w.heap.size + 1) 0 wr.heap.size wr w1_ := HD0.then (hb.mono HD0.size) hgW
          clear hb hHeld
          refine hK.out _ _ HD1.cell (fun hHeld => ?_)
          clear hK K
          try simp only [act_all]
          refine wpAnyH_ready (rs := [3]) (by kernel_rfl) (by simp) ?_
          refine AllReadyH.cons (o := _) rfl (fun K hK => ?_) AllReadyH.nil
          go_simp
          refine (rMulW_any p q s t (-1073741824) (-1073741824) 0 0 0 (w.heap.size + 1) _ HK.out.1 HK.out.2 HPO.out.1 HPO.out.2 HD1.cell HD1.free).mono ?_
          rw [HMW.out]
          rintro e w2_ ⟨he, hb⟩
          obtain rfl : e = .returned (.agg #[.int .i64 p', .int .i64 q', .int .i64 s', .int .i64 t']) := he
          have HD2 : Wk (w.heap.size + 1) 0 wr.heap.size wr w2_ := HD1.trans (hb.mono HD1.size)
          clear hb hHeld
          refine hK.out _ _ HD2.cell (fun hHeld => ?_)
          clear hK K
          try simp only [act_all]
          refine wpAnyH_ready (rs := [4]) (by kernel_rfl) (by simp) ?_
          refine AllReadyH.cons (o := _) rfl (fun K hK => ?_) AllReadyH.nil
          obtain ⟨_, _, _, _, _, _, _, _⟩ := GZ.out _ _ HD2
          have hgc := HD2.cell
          have hzz := HD2.size
          have e3 : ZB < w2_.heap.size := by omega
          have e4 : w.heap.size + 1 < w2_.heap.size := by omega
          have e5 : ¬ ZB = w.heap.size + 1 := by omega
          have e6 : ¬ w.heap.size + 1 = ZB := by omega
          go_simp
          refine hK.out _ _ (by go_cell) (fun hHeld => ?_)
          clear hK K
          try simp only [act_all]
          refine wpAnyH_done (by kernel_rfl) ?_ _
          have DF := Lib.hid (DB.out.trans (HD2.below (by omega) DB.out.size))
          have hgf := HD2.free
          obtain ⟨m0, m1, m2, m3, n0, n1, n2, n3, j0, j1, j2, j3⟩ := GR.out _ _ HD2
          have q1 : ¬ w.heap.size = ZB := by omega
          have q2 : ¬ ZB = w.heap.size := by omega
          have q3 : w.heap.size ≤ ZB := by omega
          have l0 : w.heap.size < w2_.heap.size := by omega
          have DL := DF.out
          go_wp2_with fail
          go_roundw
          case rel =>
            refine ⟨(b : Int) - 1, b, p', q', s', t', by go_num, by omega, by omega, HU2, HZK, Lib.hid (by go_grown), ?_, Lib.hid ?_⟩
            · first | (simp; done) | (simp; omega) | omega
            · refine ⟨?_, ?_, ?_, ?_, ?_, ?_, ?_, ?_, ?_, ?_, ?_, ?_, ?_, ?_, ?_, ?_, ?_, ?_⟩ <;> go_cell
          case measure => first | (simp [intOf]; done) | (simp [intOf]; omega)
        refine AllReadyH.cons (o := _) rfl (fun K hK => ?_) AllReadyH.nil
        go_simp
        refine (rWhole_any (-1) _ (by omega) (by omega)).mono ?_
        rw [show (-1 : Int) * 1073741824 = -1073741824 from rfl]
        rintro e w3_ ⟨he, hb⟩
        obtain rfl : e = .returned (.agg #[.int .i64 (-1073741824), .int .i64 (-1073741824), .int .i64 0, .int .i64 0]) := he
        have HD3 : Wk (w.heap.size + 1) 0 wr.heap.size wr w3_ := HD0.then (hb.mono HD0.size) hgW
        clear hb hHeld
        refine hK.out _ _ HD3.cell (fun hHeld => ?_)
        clear hK K
        try simp only [act_all]
        refine wpAnyH_ready (rs := [1]) (by kernel_rfl) (by simp) ?_
        refine AllReadyH.cons (o := _) rfl (fun K hK => ?_) AllReadyH.nil
        obtain ⟨_, _, _, _, _, _, _, _⟩ := GZ.out _ _ HD3
        go_simp
        refine hK.out _ _ HD3.cell (fun hHeld => ?_)
        clear hK K
        try simp only [act_all]
        refine wpAnyH_ready (rs := [3]) (by kernel_rfl) (by simp) ?_
        refine AllReadyH.cons (o := _) rfl (fun K hK => ?_) AllReadyH.nil
        go_simp
        refine (rMulW_any p q s t (-1073741824) (-1073741824) 0 0 0 (w.heap.size + 1) _ HK.out.1 HK.out.2 HPO.out.1 HPO.out.2 HD3.cell HD3.free).mono ?_
        rw [HMW.out]
        rintro e w4_ ⟨he, hb⟩
        obtain rfl : e = .returned (.agg #[.int .i64 p', .int .i64 q', .int .i64 s', .int .i64 t']) := he
        have HD4 : Wk (w.heap.size + 1) 0 wr.heap.size wr w4_ := HD3.trans (hb.mono HD3.size)
        clear hb hHeld
        refine hK.out _ _ HD4.cell (fun hHeld => ?_)
        clear hK K
        try simp only [act_all]
        refine wpAnyH_ready (rs := [4]) (by kernel_rfl) (by simp) ?_
        refine AllReadyH.cons (o := _) rfl (fun K hK => ?_) AllReadyH.nil
        obtain ⟨_, _, _, _, _, _, _, _⟩ := GZ.out _ _ HD4
        have hgc := HD4.cell
        have hzz := HD4.size
        have e3 : ZB < w4_.heap.size := by omega
        have e4 : w.heap.size + 1 < w4_.heap.size := by omega
        have e5 : ¬ ZB = w.heap.size + 1 := by omega
        have e6 : ¬ w.heap.size + 1 = ZB := by omega
        go_simp
        refine hK.out _ _ (by go_cell) (fun hHeld => ?_)
        clear hK K
        try simp only [act_all]
        refine wpAnyH_done (by kernel_rfl) ?_ _
        have DF := Lib.hid (DB.out.trans (HD4.below (by omega) DB.out.size))
        have hgf := HD4.free
        obtain ⟨m0, m1, m2, m3, n0, n1, n2, n3, j0, j1, j2, j3⟩ := GR.out _ _ HD4
        have q1 : ¬ w.heap.size = ZB := by omega
        have q2 : ¬ ZB = w.heap.size := by omega
        have q3 : w.heap.size ≤ ZB := by omega
        have l0 : w.heap.size < w4_.heap.size := by omega
        have DL := DF.out
        go_wp2_with fail
        go_roundw
        case rel =>
          refine ⟨(b : Int) - 1, b, p', q', s', t', by go_num, by omega, by omega, HU2, HZK, Lib.hid (by go_grown), ?_, Lib.hid ?_⟩
          · first | (simp; done) | (simp; omega) | omega
          · refine ⟨?_, ?_, ?_, ?_, ?_, ?_, ?_, ?_, ?_, ?_, ?_, ?_, ?_, ?_, ?_, ?_, ?_, ?_⟩ <;> go_cell
        case measure => first | (simp [intOf]; done) | (simp [intOf]; omega)
      · have hb1 : ((b : Int) == 9) = false := beq_eq_false_iff_ne.2 (by omega)
        by_cases h8 : b = 8
        · have hb2 : ((b : Int) == 8) = true := beq_iff_eq.2 (by omega)
          have hfl : ∀ w : World, (Instr.field 25 (.agg #[.int .i64 1073741824, .int .i64 1073741824, .int .i64 0, .int .i64 0]) 0).run Try.prog w = .ok (.agg #[.int .i64 1073741824, .int .i64 1073741824]) w := fun _ => rfl
          have HPT : Hid (pt b = ⟨⟨0, 0⟩, ⟨1073741824, 1073741824⟩⟩) := Lib.hid (by rw [h8]; rfl)
          have H8 := Lib.hid h8
          clear h8 h9
          rw [HPT.out] at HMW
          have HPO : Hid (okS ⟨0, 0⟩ = true ∧ okS ⟨1073741824, 1073741824⟩ = true) := Lib.hid (by decide)
          go_upto_region 13 with fail
          have GZ : Hid (∀ (e : Int) w', Wk (w.heap.size + 1) e wr.heap.size wr w' → w'.cell? ⟨ZB, 0, none⟩ = some (.int .i64 p) ∧ w'.cell? ⟨ZB, 1, none⟩ = some (.int .i64 q) ∧ w'.cell? ⟨ZB, 2, none⟩ = some (.int .i64 s) ∧ w'.cell? ⟨ZB, 3, none⟩ = some (.int .i64 t) ∧ w'.frozen? ⟨ZB, 0, none⟩ = false ∧ w'.frozen? ⟨ZB, 1, none⟩ = false ∧ w'.frozen? ⟨ZB, 2, none⟩ = false ∧ w'.frozen? ⟨ZB, 3, none⟩ = false) := Lib.hid (fun e w' hb => by
            exact ⟨(hb.cells.1 _ 0 (by omega) (by omega)).trans z0, (hb.cells.1 _ 1 (by omega) (by omega)).trans z1, (hb.cells.1 _ 2 (by omega) (by omega)).trans z2, (hb.cells.1 _ 3 (by omega) (by omega)).trans z3, (hb.cells.2 _ 0 (by omega) (by omega)).trans y0, (hb.cells.2 _ 1 (by omega) (by omega)).trans y1, (hb.cells.2 _ 2 (by omega) (by omega)).trans y2, (hb.cells.2 _ 3 (by omega) (by omega)).trans y3⟩)
          have GR : Hid (∀ (e : Int) w', Wk (w.heap.size + 1) e wr.heap.size wr w' → w'.cell? ⟨w.heap.size, 0, none⟩ = some (.int .i64 0) ∧ w'.cell? ⟨w.heap.size, 1, none⟩ = some (.int .i64 0) ∧ w'.cell? ⟨w.heap.size, 2, none⟩ = some (.int .i64 0) ∧ w'.cell? ⟨w.heap.size, 3, none⟩ = some (.int .i64 0) ∧ w'.frozen? ⟨w.heap.size, 0, none⟩ = false ∧ w'.frozen? ⟨w.heap.size, 1, none⟩ = false ∧ w'.frozen? ⟨w.heap.size, 2, none⟩ = false ∧ w'.frozen? ⟨w.heap.size, 3, none⟩ = false ∧ w'.frozen? ⟨ZB, 0, none⟩ = false ∧ w'.frozen? ⟨ZB, 1, none⟩ = false ∧ w'.frozen? ⟨ZB, 2, none⟩ = false ∧ w'.frozen? ⟨ZB, 3, none⟩ = false) := Lib.hid (fun e w' hb => by
            exact ⟨(hb.cells.1 _ 0 (by omega) (by omega)).trans d0, (hb.cells.1 _ 1 (by omega) (by omega)).trans d1, (hb.cells.1 _ 2 (by omega) (by omega)).trans d2, (hb.cells.1 _ 3 (by omega) (by omega)).trans d3, (hb.cells.2 _ 0 (by omega) (by omega)).trans f0, (hb.cells.2 _ 1 (by omega) (by omega)).trans f1, (hb.cells.2 _ 2 (by omega) (by omega)).trans f2, (hb.cells.2 _ 3 (by omega) (by omega)).trans f3, (hb.cells.2 _ 0 (by omega) (by omega)).trans y0, (hb.cells.2 _ 1 (by omega) (by omega)).trans y1, (hb.cells.2 _ 2 (by omega) (by omega)).trans y2, (hb.cells.2 _ 3 (by omega) (by omega)).trans y3⟩)
          clear HF d0 d1 d2 d3 f0 f1 f2 f3 gc gf y0 y1 y2 y3 z0 z1 z2 z3
          have HD0 : Wk (w.heap.size + 1) 0 wr.heap.size wr wr.drew := HD.then ((Below.refl _ _).drew) hgW
          refine wp_region_held_drew (S := fun w' => w'.cell? ⟨w.heap.size + 1, 0, none⟩ = some (.int .i64 0)) (by kernel_rfl) HD0.cell (fun hHeld => ?_)
          refine wpAnyH_take (i := 0) (oi := _) (v := ?_) rfl (by kernel_rfl) (by kernel_rfl) (by kernel_rfl) (fun _ _ _ h => h) (Or.inl ⟨by rfl, ?_⟩) (by assumption) ?_
          rotate_left
          · intro w hSw; go_simp; (try with_reducible rfl)
          try change wpAnyH _ _ _ _ _ _ _ (Act.put _ (some 39) _) _
          try simp only [act_all]
          refine wpAnyH_ready (rs := [1, 2]) (by kernel_rfl) (by simp) ?_
          refine AllReadyH.cons (o := _) rfl (fun K hK => ?_) ?_
          · obtain ⟨_, _, _, _, _, _, _, _⟩ := GZ.out _ _ HD0
            go_simp
            refine hK.out _ _ HD0.cell (fun hHeld => ?_)
            clear hK K
            try simp only [act_all]
            refine wpAnyH_ready (rs := [2]) (by kernel_rfl) (by simp) ?_
            refine AllReadyH.cons (o := _) rfl (fun K hK => ?_) AllReadyH.nil
            go_simp
            refine (rWhole_any (1) _ (by omega) (by omega)).mono ?_
            rw [show (1 : Int) * 1073741824 = 1073741824 from rfl]
            rintro e w5_ ⟨he, hb⟩
            obtain rfl : e = .returned (.agg #[.int .i64 1073741824, .int .i64 1073741824, .int .i64 0, .int .i64 0]) := he
            have HD5 : Wk (w.heap.size + 1) 0 wr.heap.size wr w5_ := HD0.then (hb.mono HD0.size) hgW
            clear hb hHeld
            refine hK.out _ _ HD5.cell (fun hHeld => ?_)
            clear hK K
            try simp only [act_all]
            refine wpAnyH_take (i := 3) (oi := _) (v := ?_) rfl (by kernel_rfl) (by kernel_rfl) (by kernel_rfl) (fun _ _ _ h => h) (Or.inl ⟨by rfl, ?_⟩) (by assumption) ?_
            rotate_left
            · intro w hSw; go_simp; (try with_reducible rfl)
            try change wpAnyH _ _ _ _ _ _ _ (Act.put _ (some 42) _) _
            try simp only [act_all]
            refine wpAnyH_take (i := 4) (oi := _) (v := ?_) rfl (by kernel_rfl) (by kernel_rfl) (by kernel_rfl) (fun _ _ _ h => h) (Or.inl ⟨by rfl, ?_⟩) (by assumption) ?_
            rotate_left
            · intro w hSw; go_simp; (try with_reducible rfl)
            try change wpAnyH _ _ _ _ _ _ _ (Act.put _ (some 43) _) _
            try simp only [act_all]
            refine wpAnyH_ready (rs := [5]) (by kernel_rfl) (by simp) ?_
            refine AllReadyH.cons (o := _) rfl (fun K hK => ?_) AllReadyH.nil
            go_simp
            refine (rMulW_any p q s t 0 0 1073741824 1073741824 0 (w.heap.size + 1) _ HK.out.1 HK.out.2 HPO.out.1 HPO.out.2 HD5.cell HD5.free).mono ?_
            rw [HMW.out]
            rintro e w6_ ⟨he, hb⟩
            obtain rfl : e = .returned (.agg #[.int .i64 p', .int .i64 q', .int .i64 s', .int .i64 t']) := he
            have HD6 : Wk (w.heap.size + 1) 0 wr.heap.size wr w6_ := HD5.trans (hb.mono HD5.size)
            clear hb hHeld
            refine hK.out _ _ HD6.cell (fun hHeld => ?_)
            clear hK K
            try simp only [act_all]
            refine wpAnyH_ready (rs := [6]) (by kernel_rfl) (by simp) ?_
            refine AllReadyH.cons (o := _) rfl (fun K hK => ?_) AllReadyH.nil
            obtain ⟨_, _, _, _, _, _, _, _⟩ := GZ.out _ _ HD6
            have hgc := HD6.cell
            have hzz := HD6.size
            have e3 : ZB < w6_.heap.size := by omega
            have e4 : w.heap.size + 1 < w6_.heap.size := by omega
            have e5 : ¬ ZB = w.heap.size + 1 := by omega
            have e6 : ¬ w.heap.size + 1 = ZB := by omega
            go_simp
            refine hK.out _ _ (by go_cell) (fun hHeld => ?_)
            clear hK K
            try simp only [act_all]
            refine wpAnyH_done (by kernel_rfl) ?_ _
            have DF := Lib.hid (DB.out.trans (HD6.below (by omega) DB.out.size))
            have hgf := HD6.free
            obtain ⟨m0, m1, m2, m3, n0, n1, n2, n3, j0, j1, j2, j3⟩ := GR.out _ _ HD6
            have q1 : ¬ w.heap.size = ZB := by omega
            have q2 : ¬ ZB = w.heap.size := by omega
            have q3 : w.heap.size ≤ ZB := by omega
            have l0 : w.heap.size < w6_.heap.size := by omega
            have DL := DF.out
            go_wp2_with fail
            go_roundw
            case rel =>
              refine ⟨(b : Int) - 1, b, p', q', s', t', by go_num, by omega, by omega, HU2, HZK, Lib.hid (by go_grown), ?_, Lib.hid ?_⟩
              · first | (simp; done) | (simp; omega) | omega
              · refine ⟨?_, ?_, ?_, ?_, ?_, ?_, ?_, ?_, ?_, ?_, ?_, ?_, ?_, ?_, ?_, ?_, ?_, ?_⟩ <;> go_cell
            case measure => first | (simp [intOf]; done) | (simp [intOf]; omega)
          refine AllReadyH.cons (o := _) rfl (fun K hK => ?_) AllReadyH.nil
          go_simp
          refine (rWhole_any (1) _ (by omega) (by omega)).mono ?_
          rw [show (1 : Int) * 1073741824 = 1073741824 from rfl]
          rintro e w7_ ⟨he, hb⟩
          obtain rfl : e = .returned (.agg #[.int .i64 1073741824, .int .i64 1073741824, .int .i64 0, .int .i64 0]) := he
          have HD7 : Wk (w.heap.size + 1) 0 wr.heap.size wr w7_ := HD0.then (hb.mono HD0.size) hgW
          clear hb hHeld
          refine hK.out _ _ HD7.cell (fun hHeld => ?_)
          clear hK K
          try simp only [act_all]
          refine wpAnyH_take (i := 3) (oi := _) (v := ?_) rfl (by kernel_rfl) (by kernel_rfl) (by kernel_rfl) (fun _ _ _ h => h) (Or.inl ⟨by rfl, ?_⟩) (by assumption) ?_
          rotate_left
          · intro w hSw; go_simp; (try with_reducible rfl)
          try change wpAnyH _ _ _ _ _ _ _ (Act.put _ (some 42) _) _
          try simp only [act_all]
          refine wpAnyH_take (i := 4) (oi := _) (v := ?_) rfl (by kernel_rfl) (by kernel_rfl) (by kernel_rfl) (fun _ _ _ h => h) (Or.inl ⟨by rfl, ?_⟩) (by assumption) ?_
          rotate_left
          · intro w hSw; go_simp; (try with_reducible rfl)
          try change wpAnyH _ _ _ _ _ _ _ (Act.put _ (some 43) _) _
          try simp only [act_all]
          refine wpAnyH_ready (rs := [1]) (by kernel_rfl) (by simp) ?_
          refine AllReadyH.cons (o := _) rfl (fun K hK => ?_) AllReadyH.nil
          obtain ⟨_, _, _, _, _, _, _, _⟩ := GZ.out _ _ HD7
          go_simp
          refine hK.out _ _ HD7.cell (fun hHeld => ?_)
          clear hK K
          try simp only [act_all]
          refine wpAnyH_ready (rs := [5]) (by kernel_rfl) (by simp) ?_
          refine AllReadyH.cons (o := _) rfl (fun K hK => ?_) AllReadyH.nil
          go_simp
          refine (rMulW_any p q s t 0 0 1073741824 1073741824 0 (w.heap.size + 1) _ HK.out.1 HK.out.2 HPO.out.1 HPO.out.2 HD7.cell HD7.free).mono ?_
          rw [HMW.out]
          rintro e w8_ ⟨he, hb⟩
          obtain rfl : e = .returned (.agg #[.int .i64 p', .int .i64 q', .int .i64 s', .int .i64 t']) := he
          have HD8 : Wk (w.heap.size + 1) 0 wr.heap.size wr w8_ := HD7.trans (hb.mono HD7.size)
          clear hb hHeld
          refine hK.out _ _ HD8.cell (fun hHeld => ?_)
          clear hK K
          try simp only [act_all]
          refine wpAnyH_ready (rs := [6]) (by kernel_rfl) (by simp) ?_
          refine AllReadyH.cons (o := _) rfl (fun K hK => ?_) AllReadyH.nil
          obtain ⟨_, _, _, _, _, _, _, _⟩ := GZ.out _ _ HD8
          have hgc := HD8.cell
          have hzz := HD8.size
          have e3 : ZB < w8_.heap.size := by omega
          have e4 : w.heap.size + 1 < w8_.heap.size := by omega
          have e5 : ¬ ZB = w.heap.size + 1 := by omega
          have e6 : ¬ w.heap.size + 1 = ZB := by omega
          go_simp
          refine hK.out _ _ (by go_cell) (fun hHeld => ?_)
          clear hK K
          try simp only [act_all]
          refine wpAnyH_done (by kernel_rfl) ?_ _
          have DF := Lib.hid (DB.out.trans (HD8.below (by omega) DB.out.size))
          have hgf := HD8.free
          obtain ⟨m0, m1, m2, m3, n0, n1, n2, n3, j0, j1, j2, j3⟩ := GR.out _ _ HD8
          have q1 : ¬ w.heap.size = ZB := by omega
          have q2 : ¬ ZB = w.heap.size := by omega
          have q3 : w.heap.size ≤ ZB := by omega
          have l0 : w.heap.size < w8_.heap.size := by omega
          have DL := DF.out
          go_wp2_with fail
          go_roundw
          case rel =>
            refine ⟨(b : Int) - 1, b, p', q', s', t', by go_num, by omega, by omega, HU2, HZK, Lib.hid (by go_grown), ?_, Lib.hid ?_⟩
            · first | (simp; done) | (simp; omega) | omega
            · refine ⟨?_, ?_, ?_, ?_, ?_, ?_, ?_, ?_, ?_, ?_, ?_, ?_, ?_, ?_, ?_, ?_, ?_, ?_⟩ <;> go_cell
          case measure => first | (simp [intOf]; done) | (simp [intOf]; omega)
        · have hb2 : ((b : Int) == 8) = false := beq_eq_false_iff_ne.2 (by omega)
          obtain ⟨x0, x1, x2, x3, hx⟩ : ∃ x0 x1 x2 x3, pt b = ⟨⟨x0, x1⟩, ⟨x2, x3⟩⟩ := ⟨_, _, _, _, rfl⟩
          have HPO := pt_ok ⟨b, by omega⟩
          simp only at HPO
          rw [hx, okR_iff] at HPO
          have HPO := Lib.hid HPO
          have HPT : Hid (cis (10 - b - 2) = ⟨⟨x0, x1⟩, ⟨x2, x3⟩⟩) := Lib.hid (by rw [← hx]; unfold pt; rw [if_neg h9, show 10 - b - 2 = 8 - b by omega])
          rw [hx] at HMW
          have H9 := Lib.hid h9
          have H8 := Lib.hid h8
          clear hx h8 h9
          go_upto_region 9 with fail
          have GZ : Hid (∀ (e : Int) w', Wk (w.heap.size + 1) e wr.heap.size wr w' → w'.cell? ⟨ZB, 0, none⟩ = some (.int .i64 p) ∧ w'.cell? ⟨ZB, 1, none⟩ = some (.int .i64 q) ∧ w'.cell? ⟨ZB, 2, none⟩ = some (.int .i64 s) ∧ w'.cell? ⟨ZB, 3, none⟩ = some (.int .i64 t) ∧ w'.frozen? ⟨ZB, 0, none⟩ = false ∧ w'.frozen? ⟨ZB, 1, none⟩ = false ∧ w'.frozen? ⟨ZB, 2, none⟩ = false ∧ w'.frozen? ⟨ZB, 3, none⟩ = false) := Lib.hid (fun e w' hb => by
            exact ⟨(hb.cells.1 _ 0 (by omega) (by omega)).trans z0, (hb.cells.1 _ 1 (by omega) (by omega)).trans z1, (hb.cells.1 _ 2 (by omega) (by omega)).trans z2, (hb.cells.1 _ 3 (by omega) (by omega)).trans z3, (hb.cells.2 _ 0 (by omega) (by omega)).trans y0, (hb.cells.2 _ 1 (by omega) (by omega)).trans y1, (hb.cells.2 _ 2 (by omega) (by omega)).trans y2, (hb.cells.2 _ 3 (by omega) (by omega)).trans y3⟩)
          have GR : Hid (∀ (e : Int) w', Wk (w.heap.size + 1) e wr.heap.size wr w' → w'.cell? ⟨w.heap.size, 0, none⟩ = some (.int .i64 0) ∧ w'.cell? ⟨w.heap.size, 1, none⟩ = some (.int .i64 0) ∧ w'.cell? ⟨w.heap.size, 2, none⟩ = some (.int .i64 0) ∧ w'.cell? ⟨w.heap.size, 3, none⟩ = some (.int .i64 0) ∧ w'.frozen? ⟨w.heap.size, 0, none⟩ = false ∧ w'.frozen? ⟨w.heap.size, 1, none⟩ = false ∧ w'.frozen? ⟨w.heap.size, 2, none⟩ = false ∧ w'.frozen? ⟨w.heap.size, 3, none⟩ = false ∧ w'.frozen? ⟨ZB, 0, none⟩ = false ∧ w'.frozen? ⟨ZB, 1, none⟩ = false ∧ w'.frozen? ⟨ZB, 2, none⟩ = false ∧ w'.frozen? ⟨ZB, 3, none⟩ = false) := Lib.hid (fun e w' hb => by
            exact ⟨(hb.cells.1 _ 0 (by omega) (by omega)).trans d0, (hb.cells.1 _ 1 (by omega) (by omega)).trans d1, (hb.cells.1 _ 2 (by omega) (by omega)).trans d2, (hb.cells.1 _ 3 (by omega) (by omega)).trans d3, (hb.cells.2 _ 0 (by omega) (by omega)).trans f0, (hb.cells.2 _ 1 (by omega) (by omega)).trans f1, (hb.cells.2 _ 2 (by omega) (by omega)).trans f2, (hb.cells.2 _ 3 (by omega) (by omega)).trans f3, (hb.cells.2 _ 0 (by omega) (by omega)).trans y0, (hb.cells.2 _ 1 (by omega) (by omega)).trans y1, (hb.cells.2 _ 2 (by omega) (by omega)).trans y2, (hb.cells.2 _ 3 (by omega) (by omega)).trans y3⟩)
          clear HF d0 d1 d2 d3 f0 f1 f2 f3 gc gf y0 y1 y2 y3 z0 z1 z2 z3
          have HD0 : Wk (w.heap.size + 1) 0 wr.heap.size wr wr.drew := HD.then ((Below.refl _ _).drew) hgW
          refine wp_region_held_drew (S := fun w' => w'.cell? ⟨w.heap.size + 1, 0, none⟩ = some (.int .i64 0)) (by kernel_rfl) HD0.cell (fun hHeld => ?_)
          refine wpAnyH_take (i := 0) (oi := _) (v := ?_) rfl (by kernel_rfl) (by kernel_rfl) (by kernel_rfl) (fun _ _ _ h => h) (Or.inl ⟨by rfl, ?_⟩) (by assumption) ?_
          rotate_left
          · intro w hSw; go_simp; (try with_reducible rfl)
          try change wpAnyH _ _ _ _ _ _ _ (Act.put _ (some 24) _) _
          try simp only [act_all]
          refine wpAnyH_take (i := 2) (oi := _) (v := ?_) rfl (by kernel_rfl) (by kernel_rfl) (by kernel_rfl) (fun _ _ _ h => h) (Or.inl ⟨by rfl, ?_⟩) (by assumption) ?_
          rotate_left
          · intro w hSw; go_simp; (try with_reducible rfl)
          try change wpAnyH _ _ _ _ _ _ _ (Act.put _ (some 26) _) _
          try simp only [act_all]
          refine wpAnyH_take (i := 3) (oi := _) (v := ?_) rfl (by kernel_rfl) (by kernel_rfl) (by kernel_rfl) (fun _ _ _ h => h) (Or.inl ⟨by rfl, ?_⟩) (by assumption) ?_
          rotate_left
          · intro w hSw; go_simp; (try with_reducible rfl)
          try change wpAnyH _ _ _ _ _ _ _ (Act.put _ (some 27) _) _
          try simp only [act_all]
          refine wpAnyH_take (i := 4) (oi := _) (v := ?_) rfl (by kernel_rfl) (by kernel_rfl) (by kernel_rfl) (fun _ _ _ h => h) (Or.inl ⟨by rfl, ?_⟩) (by assumption) ?_
          rotate_left
          · intro w hSw; go_simp; (try with_reducible rfl)
          try change wpAnyH _ _ _ _ _ _ _ (Act.put _ (some 28) _) _
          try simp only [act_all]
          refine wpAnyH_ready (rs := [1, 5]) (by kernel_rfl) (by simp) ?_
          refine AllReadyH.cons (o := _) rfl (fun K hK => ?_) ?_
          · obtain ⟨_, _, _, _, _, _, _, _⟩ := GZ.out _ _ HD0
            go_simp
            refine hK.out _ _ HD0.cell (fun hHeld => ?_)
            clear hK K
            try simp only [act_all]
            refine wpAnyH_ready (rs := [5]) (by kernel_rfl) (by simp) ?_
            refine AllReadyH.cons (o := _) rfl (fun K hK => ?_) AllReadyH.nil
            go_simp
            refine (rPoint_at _ (10 - b) (w.heap.size + 1) _ (by go_arith) (by have := H9.out; have := H8.out; omega) (by omega) HD0.cell HD0.free).mono ?_
            rw [HPT.out]
            rintro e w9_ ⟨he, hb⟩
            obtain rfl : e = .returned (.agg #[.int .i64 x0, .int .i64 x1, .int .i64 x2, .int .i64 x3]) := he
            have HD9 : Wk (w.heap.size + 1) 0 wr.heap.size wr w9_ := HD0.trans (hb.mono HD0.size)
            clear hb hHeld
            refine hK.out _ _ HD9.cell (fun hHeld => ?_)
            clear hK K
            try simp only [act_all]
            refine wpAnyH_ready (rs := [6]) (by kernel_rfl) (by simp) ?_
            refine AllReadyH.cons (o := _) rfl (fun K hK => ?_) AllReadyH.nil
            go_simp
            refine (rMulW_any p q s t x0 x1 x2 x3 0 (w.heap.size + 1) _ HK.out.1 HK.out.2 HPO.out.1 HPO.out.2 HD9.cell HD9.free).mono ?_
            rw [HMW.out]
            rintro e w10_ ⟨he, hb⟩
            obtain rfl : e = .returned (.agg #[.int .i64 p', .int .i64 q', .int .i64 s', .int .i64 t']) := he
            have HD10 : Wk (w.heap.size + 1) 0 wr.heap.size wr w10_ := HD9.trans (hb.mono HD9.size)
            clear hb hHeld
            refine hK.out _ _ HD10.cell (fun hHeld => ?_)
            clear hK K
            try simp only [act_all]
            refine wpAnyH_ready (rs := [7]) (by kernel_rfl) (by simp) ?_
            refine AllReadyH.cons (o := _) rfl (fun K hK => ?_) AllReadyH.nil
            obtain ⟨_, _, _, _, _, _, _, _⟩ := GZ.out _ _ HD10
            have hgc := HD10.cell
            have hzz := HD10.size
            have e3 : ZB < w10_.heap.size := by omega
            have e4 : w.heap.size + 1 < w10_.heap.size := by omega
            have e5 : ¬ ZB = w.heap.size + 1 := by omega
            have e6 : ¬ w.heap.size + 1 = ZB := by omega
            go_simp
            refine hK.out _ _ (by go_cell) (fun hHeld => ?_)
            clear hK K
            try simp only [act_all]
            refine wpAnyH_done (by kernel_rfl) ?_ _
            have DF := Lib.hid (DB.out.trans (HD10.below (by omega) DB.out.size))
            have hgf := HD10.free
            obtain ⟨m0, m1, m2, m3, n0, n1, n2, n3, j0, j1, j2, j3⟩ := GR.out _ _ HD10
            have q1 : ¬ w.heap.size = ZB := by omega
            have q2 : ¬ ZB = w.heap.size := by omega
            have q3 : w.heap.size ≤ ZB := by omega
            have l0 : w.heap.size < w10_.heap.size := by omega
            have DL := DF.out
            go_wp2_with fail
            go_roundw
            case rel =>
              refine ⟨(b : Int) - 1, b, p', q', s', t', by go_num, by omega, by omega, HU2, HZK, Lib.hid (by go_grown), ?_, Lib.hid ?_⟩
              · first | (simp; done) | (simp; omega) | omega
              · refine ⟨?_, ?_, ?_, ?_, ?_, ?_, ?_, ?_, ?_, ?_, ?_, ?_, ?_, ?_, ?_, ?_, ?_, ?_⟩ <;> go_cell
            case measure => first | (simp [intOf]; done) | (simp [intOf]; omega)
          refine AllReadyH.cons (o := _) rfl (fun K hK => ?_) AllReadyH.nil
          go_simp
          refine (rPoint_at _ (10 - b) (w.heap.size + 1) _ (by go_arith) (by have := H9.out; have := H8.out; omega) (by omega) HD0.cell HD0.free).mono ?_
          rw [HPT.out]
          rintro e w11_ ⟨he, hb⟩
          obtain rfl : e = .returned (.agg #[.int .i64 x0, .int .i64 x1, .int .i64 x2, .int .i64 x3]) := he
          have HD11 : Wk (w.heap.size + 1) 0 wr.heap.size wr w11_ := HD0.trans (hb.mono HD0.size)
          clear hb hHeld
          refine hK.out _ _ HD11.cell (fun hHeld => ?_)
          clear hK K
          try simp only [act_all]
          refine wpAnyH_ready (rs := [1]) (by kernel_rfl) (by simp) ?_
          refine AllReadyH.cons (o := _) rfl (fun K hK => ?_) AllReadyH.nil
          obtain ⟨_, _, _, _, _, _, _, _⟩ := GZ.out _ _ HD11
          go_simp
          refine hK.out _ _ HD11.cell (fun hHeld => ?_)
          clear hK K
          try simp only [act_all]
          refine wpAnyH_ready (rs := [6]) (by kernel_rfl) (by simp) ?_
          refine AllReadyH.cons (o := _) rfl (fun K hK => ?_) AllReadyH.nil
          go_simp
          refine (rMulW_any p q s t x0 x1 x2 x3 0 (w.heap.size + 1) _ HK.out.1 HK.out.2 HPO.out.1 HPO.out.2 HD11.cell HD11.free).mono ?_
          rw [HMW.out]
          rintro e w12_ ⟨he, hb⟩
          obtain rfl : e = .returned (.agg #[.int .i64 p', .int .i64 q', .int .i64 s', .int .i64 t']) := he
          have HD12 : Wk (w.heap.size + 1) 0 wr.heap.size wr w12_ := HD11.trans (hb.mono HD11.size)
          clear hb hHeld
          refine hK.out _ _ HD12.cell (fun hHeld => ?_)
          clear hK K
          try simp only [act_all]
          refine wpAnyH_ready (rs := [7]) (by kernel_rfl) (by simp) ?_
          refine AllReadyH.cons (o := _) rfl (fun K hK => ?_) AllReadyH.nil
          obtain ⟨_, _, _, _, _, _, _, _⟩ := GZ.out _ _ HD12
          have hgc := HD12.cell
          have hzz := HD12.size
          have e3 : ZB < w12_.heap.size := by omega
          have e4 : w.heap.size + 1 < w12_.heap.size := by omega
          have e5 : ¬ ZB = w.heap.size + 1 := by omega
          have e6 : ¬ w.heap.size + 1 = ZB := by omega
          go_simp
          refine hK.out _ _ (by go_cell) (fun hHeld => ?_)
          clear hK K
          try simp only [act_all]
          refine wpAnyH_done (by kernel_rfl) ?_ _
          have DF := Lib.hid (DB.out.trans (HD12.below (by omega) DB.out.size))
          have hgf := HD12.free
          obtain ⟨m0, m1, m2, m3, n0, n1, n2, n3, j0, j1, j2, j3⟩ := GR.out _ _ HD12
          have q1 : ¬ w.heap.size = ZB := by omega
          have q2 : ¬ ZB = w.heap.size := by omega
          have q3 : w.heap.size ≤ ZB := by omega
          have l0 : w.heap.size < w12_.heap.size := by omega
          have DL := DF.out
          go_wp2_with fail
          go_roundw
          case rel =>
            refine ⟨(b : Int) - 1, b, p', q', s', t', by go_num, by omega, by omega, HU2, HZK, Lib.hid (by go_grown), ?_, Lib.hid ?_⟩
            · first | (simp; done) | (simp; omega) | omega
            · refine ⟨?_, ?_, ?_, ?_, ?_, ?_, ?_, ?_, ?_, ?_, ?_, ?_, ?_, ?_, ?_, ?_, ?_, ?_⟩ <;> go_cell
          case measure => first | (simp [intOf]; done) | (simp [intOf]; omega)
end Go.Proofs.Ytilclpldfoifkaa
