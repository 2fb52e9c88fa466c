import Derived.Test.YtgbnpnenejgnnaaMe
import Derived.Deep.DeepCutAuto
import Derived.Test.YtgbnpnenejgnnaaEat
namespace Encl
/-- The document's own way: the first error stays, and nothing is done behind it. -/
def rn (e : Int) (o : Out Sp) : Sp × Int := if e = 0 then (match o with | .ok s => (s, 0) | .bad k => (S0, k)) else (S0, e)
theorem rn_ok (s : Sp) : rn 0 (.ok s) = (s, 0) := rfl
theorem rn_bad (k : Int) : rn 0 (.bad k) = (S0, k) := rfl
theorem rn_err {e : Int} (h : ¬ e = 0) (o : Out Sp) : rn e o = (S0, e) := if_neg h
end Encl
namespace Go.Proofs.Ytgbnpnenejgnnaa
open Go.RowKit Encl
/-- Below B all is as it was but for the one cell of block g, which holds e. -/
structure Wk (g : Nat) (e : Int) (B : Nat) (w w' : World) : Prop where
  os : w'.os = w.os
  tape : w'.tape = w.tape
  output : w'.output = w.output
  size : w.heap.size ≤ w'.heap.size
  block : ∀ k, k < B → ¬ k = g → w'.heap[k]? = w.heap[k]?
  cell : w'.cell? ⟨g, 0, none⟩ = some (.int .i64 e)
  free : w'.frozen? ⟨g, 0, none⟩ = false
theorem Wk.of_below {g : Nat} {e : Int} {B : Nat} {w w' : World} (h : Below B w w') (hc : w'.cell? ⟨g, 0, none⟩ = some (.int .i64 e)) (hf : w'.frozen? ⟨g, 0, none⟩ = false) : Wk g e B w w' :=
  ⟨h.os, h.tape, h.output, h.size, fun k hk _ => h.block k hk, hc, hf⟩
theorem Wk.below {g : Nat} {e : Int} {B B' : Nat} {w w' : World} (h : Wk g e B w w') (h1 : B' ≤ g) (h2 : B' ≤ B) : Below B' w w' :=
  ⟨h.os, h.tape, h.output, h.size, fun k hk => h.block k (by omega) (by omega)⟩
theorem Wk.trans {g : Nat} {e e' : Int} {B : Nat} {a b c : World} (h : Wk g e B a b) (k : Wk g e' B b c) : Wk g e' B a c :=
  ⟨k.os.trans h.os, k.tape.trans h.tape, k.output.trans h.output, Nat.le_trans h.size k.size, fun i hi hn => (k.block i hi hn).trans (h.block i hi hn), k.cell, k.free⟩
theorem Wk.mono {g : Nat} {e : Int} {B B' : Nat} {w w' : World} (h : Wk g e B w w') (hB : B' ≤ B) : Wk g e B' w w' :=
  ⟨h.os, h.tape, h.output, h.size, fun k hk hn => h.block k (by omega) hn, h.cell, h.free⟩
theorem Wk.then {g : Nat} {e : Int} {B : Nat} {a b c : World} (h : Wk g e B a b) (k : Below B b c) (hg : g < B) : Wk g e B a c :=
  ⟨k.os.trans h.os, k.tape.trans h.tape, k.output.trans h.output, Nat.le_trans h.size k.size, fun i hi hn => (k.block i hi).trans (h.block i hi hn), (k.cell (p := ⟨g, 0, none⟩) hg).trans h.cell, (k.frozen (p := ⟨g, 0, none⟩) hg).trans h.free⟩
theorem Wk.set {g : Nat} {e : Int} {B : Nat} {a b : World} (h : Wk g e B a b) (e' : Int) : Wk g e' B a (b.setCell ⟨g, 0, none⟩ (.int .i64 e')) := by
  refine ⟨h.os, h.tape, h.output, by simpa using h.size, fun k hk hn => (Below.heap_setCell _ _ _ _ hn).trans (h.block k hk hn), ?_, (World.frozen?_setCell _ _ _ _).trans h.free⟩
  have := h.cell
  go_cell
theorem Wk.cells {g : Nat} {e : Int} {w w1 : World} (h : Wk g e w.heap.size w w1) : (∀ b o, b < w.heap.size → ¬ b = g → w1.cell? ⟨b, o, none⟩ = w.cell? ⟨b, o, none⟩) ∧ (∀ b o, b < w.heap.size → ¬ b = g → w1.frozen? ⟨b, o, none⟩ = w.frozen? ⟨b, o, none⟩) :=
  ⟨fun b _ hb hn => World.cell?_of_block (w := w) (h.block b hb hn), fun b _ hb hn => World.frozen?_of_block (w := w) (h.block b hb hn)⟩

set_option maxRecDepth 100000 in
set_option maxHeartbeats 4000000 in
theorem rSpan_any (lo hi e0 : Int) (g : Nat) (w : World) (hc : w.cell? ⟨g, 0, none⟩ = some (.int .i64 e0)) (hf : w.frozen? ⟨g, 0, none⟩ = false) :
    Calls Try.prog 103 #[.pointer (some ⟨g, 0, none⟩), .int .i64 lo, .int .i64 hi] w fun e w' => e = retS (rn e0 (inR ⟨lo, hi⟩)).1 ∧ Wk g (rn e0 (inR ⟨lo, hi⟩)).2 w.heap.size w w' := by
  have hg : g < w.heap.size := World.block_lt_of_cell? w _ hc
  by_cases he : e0 = 0
  · subst he
    by_cases hok : okS ⟨lo, hi⟩ = true
    · rw [inR_ok hok, rn_ok]
      have HO := Lib.hid hok
      clear hok
      go_enter Try.func103, Try.ntmps103
      go_wp2_with fail
      refine (rValid_any lo hi _).mono ?_
      rw [HO.out]
      rintro e w1 ⟨rfl, hb⟩
      have D1 : Below w.heap.size w w1 := Below.trans (by go_grown) (hb.mono (by first | omega | (simp; done) | (simp; omega)))
      have s1 : w.heap.size + 1 < w1.heap.size := by have hs := hb.size; (try simp at hs); omega
      obtain ⟨k1, k2⟩ := bcl hb
      have a0 := (k1 g 0 (by first | omega | (simp; done) | (simp; omega))).trans (by go_cell : _ = some (.int .i64 0))
      have b0 := (k2 g 0 (by first | omega | (simp; done) | (simp; omega))).trans (by go_cell : _ = false)
      have c0 := (k1 w.heap.size 0 (by simp; omega)).trans (by go_cell : _ = some (.int .i64 0))
      have c1 := (k1 w.heap.size 1 (by simp; omega)).trans (by go_cell : _ = some (.int .i64 0))
      have f0 := (k2 w.heap.size 0 (by simp; omega)).trans (by go_cell : _ = false)
      have f1 := (k2 w.heap.size 1 (by simp; omega)).trans (by go_cell : _ = false)
      have x0 := (k1 (w.heap.size + 1) 0 (by simp)).trans (by go_cell : _ = some (.int .i64 lo))
      have x1 := (k1 (w.heap.size + 1) 1 (by simp)).trans (by go_cell : _ = some (.int .i64 hi))
      clear hb k1 k2 hc hf
      have hn1 : ¬ g = w.heap.size := by omega
      go_wp2_with fail
      refine bodyPost_ret (v := .agg #[.int .i64 lo, .int .i64 hi]) (by simp [results, Try.results103, go_sem, *]) rfl ⟨rfl, Wk.of_below (by go_grown) (by go_cell) (by go_cell)⟩
    · have HO : Hid (okS ⟨lo, hi⟩ = false) := Lib.hid (by simpa using hok)
      rw [inR_bad hok, rn_bad]
      clear hok
      go_enter Try.func103, Try.ntmps103
      go_wp2_with fail
      refine (rValid_any lo hi _).mono ?_
      rw [HO.out]
      rintro e w1 ⟨rfl, hb⟩
      have D1 : Below w.heap.size w w1 := Below.trans (by go_grown) (hb.mono (by first | omega | (simp; done) | (simp; omega)))
      have s1 : w.heap.size + 1 < w1.heap.size := by have hs := hb.size; (try simp at hs); omega
      obtain ⟨k1, k2⟩ := bcl hb
      have a0 := (k1 g 0 (by first | omega | (simp; done) | (simp; omega))).trans (by go_cell : _ = some (.int .i64 0))
      have b0 := (k2 g 0 (by first | omega | (simp; done) | (simp; omega))).trans (by go_cell : _ = false)
      have c0 := (k1 w.heap.size 0 (by simp; omega)).trans (by go_cell : _ = some (.int .i64 0))
      have c1 := (k1 w.heap.size 1 (by simp; omega)).trans (by go_cell : _ = some (.int .i64 0))
      have f0 := (k2 w.heap.size 0 (by simp; omega)).trans (by go_cell : _ = false)
      have f1 := (k2 w.heap.size 1 (by simp; omega)).trans (by go_cell : _ = false)
      clear hb k1 k2 hc hf
      have hn1 : ¬ g = w.heap.size := by omega
      go_upto_region 4 with fail
      have HW := (Wk.of_below D1 a0 b0).set 4
      have q0 : (w1.setCell ⟨g, 0, none⟩ (.int .i64 4)).cell? ⟨g, 0, none⟩ = some (.int .i64 4) := by go_cell
      have q1 : (w1.setCell ⟨g, 0, none⟩ (.int .i64 4)).frozen? ⟨g, 0, none⟩ = false := by go_cell
      have q2 : (w1.setCell ⟨g, 0, none⟩ (.int .i64 4)).cell? ⟨w.heap.size, 0, none⟩ = some (.int .i64 0) := by go_cell
      have q3 : (w1.setCell ⟨g, 0, none⟩ (.int .i64 4)).cell? ⟨w.heap.size, 1, none⟩ = some (.int .i64 0) := by go_cell
      have q4 : (w1.setCell ⟨g, 0, none⟩ (.int .i64 4)).frozen? ⟨w.heap.size, 0, none⟩ = false := by go_cell
      have q5 : (w1.setCell ⟨g, 0, none⟩ (.int .i64 4)).frozen? ⟨w.heap.size, 1, none⟩ = false := by go_cell
      generalize w1.setCell ⟨g, 0, none⟩ (.int .i64 4) = w2 at *
      have HWH := Lib.hid HW
      clear HW D1 a0 b0 c0 c1 f0 f1
      have D2 : Below w.heap.size w2 w2 := Below.refl _ _
      go_wp2_with fail
      refine bodyPost_ret (v := .agg #[.int .i64 0, .int .i64 0]) (by simp [results, Try.results103, go_sem, *]) rfl ⟨rfl, HWH.out.then (by go_grown) hg⟩
  · rw [rn_err he]
    have hb1 : (e0 == 0) = false := beq_eq_false_iff_ne.2 he
    have hb2 : (e0 != 0) = true := bne_iff_ne.2 he
    clear he
    have hn1 : ¬ g = w.heap.size := by omega
    go_enter Try.func103, Try.ntmps103
    go_wp2_with fail
    refine bodyPost_ret (v := .agg #[.int .i64 0, .int .i64 0]) (by simp [results, Try.results103, go_sem, *]) rfl ⟨rfl, Wk.of_below (by go_grown) (by go_cell) (by go_cell)⟩
end Go.Proofs.Ytgbnpnenejgnnaa

namespace Go.Proofs.Ytgbnpnenejgnnaa
open Go.RowKit Encl

set_option maxRecDepth 100000 in
set_option maxHeartbeats 4000000 in
theorem rSum_any (a b c d e0 : Int) (g : Nat) (w : World) (h1 : okS ⟨a, b⟩ = true) (h2 : okS ⟨c, d⟩ = true) (hc : w.cell? ⟨g, 0, none⟩ = some (.int .i64 e0)) (hf : w.frozen? ⟨g, 0, none⟩ = false) :
    Calls Try.prog 101 #[.pointer (some ⟨g, 0, none⟩), .agg #[.int .i64 a, .int .i64 b], .agg #[.int .i64 c, .int .i64 d]] w fun e w' => e = retS (rn e0 (addS ⟨a, b⟩ ⟨c, d⟩)).1 ∧ Wk g (rn e0 (addS ⟨a, b⟩ ⟨c, d⟩)).2 w.heap.size w w' := by
  have hg : g < w.heap.size := World.block_lt_of_cell? w _ hc
  rw [okS_iff] at h1 h2
  simp only at h1 h2
  obtain ⟨g1, g2, g3⟩ := h1
  obtain ⟨g4, g5, g6⟩ := h2
  have HS : Hid (addS ⟨a, b⟩ ⟨c, d⟩ = inR ⟨a + c, b + d⟩) := Lib.hid (by first | rfl | (unfold subS addS negS; congr 1))
  rw [HS.out]
  obtain ⟨rs, re, hr⟩ : ∃ rs re, rn e0 (inR ⟨a + c, b + d⟩) = (rs, re) := ⟨_, _, rfl⟩
  have HR := Lib.hid hr
  rw [hr]
  obtain ⟨p, q⟩ := rs
  clear hr HS
  go_enter Try.func101, Try.ntmps101
  go_wp2_with fail
  have hb0 : Below w.heap.size w (((w.alloc (Obj.cells #[.int .i64 a, .int .i64 b] 23)).alloc (Obj.cells #[.int .i64 c, .int .i64 d] 23)).alloc (Obj.cells #[.int .i64 0, .int .i64 0] 23)) := by go_grown
  have hc0 : (((w.alloc (Obj.cells #[.int .i64 a, .int .i64 b] 23)).alloc (Obj.cells #[.int .i64 c, .int .i64 d] 23)).alloc (Obj.cells #[.int .i64 0, .int .i64 0] 23)).cell? ⟨g, 0, none⟩ = some (.int .i64 e0) := (hb0.cell (p := ⟨g, 0, none⟩) hg).trans hc
  have hf0 : (((w.alloc (Obj.cells #[.int .i64 a, .int .i64 b] 23)).alloc (Obj.cells #[.int .i64 c, .int .i64 d] 23)).alloc (Obj.cells #[.int .i64 0, .int .i64 0] 23)).frozen? ⟨g, 0, none⟩ = false := (hb0.frozen (p := ⟨g, 0, none⟩) hg).trans hf
  have c0 : (((w.alloc (Obj.cells #[.int .i64 a, .int .i64 b] 23)).alloc (Obj.cells #[.int .i64 c, .int .i64 d] 23)).alloc (Obj.cells #[.int .i64 0, .int .i64 0] 23)).cell? ⟨w.heap.size + 1 + 1, 0, none⟩ = some (.int .i64 0) := by go_cell
  have c1 : (((w.alloc (Obj.cells #[.int .i64 a, .int .i64 b] 23)).alloc (Obj.cells #[.int .i64 c, .int .i64 d] 23)).alloc (Obj.cells #[.int .i64 0, .int .i64 0] 23)).cell? ⟨w.heap.size + 1 + 1, 1, none⟩ = some (.int .i64 0) := by go_cell
  have f0 : (((w.alloc (Obj.cells #[.int .i64 a, .int .i64 b] 23)).alloc (Obj.cells #[.int .i64 c, .int .i64 d] 23)).alloc (Obj.cells #[.int .i64 0, .int .i64 0] 23)).frozen? ⟨w.heap.size + 1 + 1, 0, none⟩ = false := by go_cell
  have f1 : (((w.alloc (Obj.cells #[.int .i64 a, .int .i64 b] 23)).alloc (Obj.cells #[.int .i64 c, .int .i64 d] 23)).alloc (Obj.cells #[.int .i64 0, .int .i64 0] 23)).frozen? ⟨w.heap.size + 1 + 1, 1, none⟩ = false := by go_cell
  have hz : w.heap.size + 1 + 1 < (((w.alloc (Obj.cells #[.int .i64 a, .int .i64 b] 23)).alloc (Obj.cells #[.int .i64 c, .int .i64 d] 23)).alloc (Obj.cells #[.int .i64 0, .int .i64 0] 23)).heap.size := by simp
  generalize (((w.alloc (Obj.cells #[.int .i64 a, .int .i64 b] 23)).alloc (Obj.cells #[.int .i64 c, .int .i64 d] 23)).alloc (Obj.cells #[.int .i64 0, .int .i64 0] 23)) = W at *
  have HB0 := Lib.hid hb0
  clear hb0 hc hf
  refine (rSpan_any (a + c) (b + d) e0 g _ hc0 hf0).mono ?_
  rw [HR.out]
  rintro e w1 ⟨he, hb⟩
  obtain rfl : e = .returned (.agg #[.int .i64 p, .int .i64 q]) := he
  obtain ⟨k1, k2⟩ := hb.cells
  have HW0 := Lib.hid ((Wk.of_below HB0.out hc0 hf0).trans (hb.mono HB0.out.size))
  have s1 : w.heap.size + 1 + 1 < w1.heap.size := by have hs := hb.size; omega
  have c0' := (k1 (w.heap.size + 1 + 1) 0 (by omega) (by omega)).trans c0
  have c1' := (k1 (w.heap.size + 1 + 1) 1 (by omega) (by omega)).trans c1
  have f0' := (k2 (w.heap.size + 1 + 1) 0 (by omega) (by omega)).trans f0
  have f1' := (k2 (w.heap.size + 1 + 1) 1 (by omega) (by omega)).trans f1
  clear hb k1 k2 hc0 hf0 c0 c1 f0 f1
  have D1 : Below w.heap.size w1 w1 := Below.refl _ _
  go_wp2_with fail
  refine bodyPost_ret (v := .agg #[.int .i64 p, .int .i64 q]) (by simp [results, Try.results101, go_sem, *]) rfl ⟨rfl, HW0.out.then (by go_grown) hg⟩

set_option maxRecDepth 100000 in
set_option maxHeartbeats 4000000 in
theorem rLess_any (a b c d e0 : Int) (g : Nat) (w : World) (h1 : okS ⟨a, b⟩ = true) (h2 : okS ⟨c, d⟩ = true) (hc : w.cell? ⟨g, 0, none⟩ = some (.int .i64 e0)) (hf : w.frozen? ⟨g, 0, none⟩ = false) :
    Calls Try.prog 119 #[.pointer (some ⟨g, 0, none⟩), .agg #[.int .i64 a, .int .i64 b], .agg #[.int .i64 c, .int .i64 d]] w fun e w' => e = retS (rn e0 (subS ⟨a, b⟩ ⟨c, d⟩)).1 ∧ Wk g (rn e0 (subS ⟨a, b⟩ ⟨c, d⟩)).2 w.heap.size w w' := by
  have hg : g < w.heap.size := World.block_lt_of_cell? w _ hc
  rw [okS_iff] at h1 h2
  simp only at h1 h2
  obtain ⟨g1, g2, g3⟩ := h1
  obtain ⟨g4, g5, g6⟩ := h2
  have HS : Hid (subS ⟨a, b⟩ ⟨c, d⟩ = inR ⟨a - d, b - c⟩) := Lib.hid (by first | rfl | (unfold subS addS negS; congr 1))
  rw [HS.out]
  obtain ⟨rs, re, hr⟩ : ∃ rs re, rn e0 (inR ⟨a - d, b - c⟩) = (rs, re) := ⟨_, _, rfl⟩
  have HR := Lib.hid hr
  rw [hr]
  obtain ⟨p, q⟩ := rs
  clear hr HS
  go_enter Try.func119, Try.ntmps119
  go_wp2_with fail
  have hb0 : Below w.heap.size w (((w.alloc (Obj.cells #[.int .i64 a, .int .i64 b] 23)).alloc (Obj.cells #[.int .i64 c, .int .i64 d] 23)).alloc (Obj.cells #[.int .i64 0, .int .i64 0] 23)) := by go_grown
  have hc0 : (((w.alloc (Obj.cells #[.int .i64 a, .int .i64 b] 23)).alloc (Obj.cells #[.int .i64 c, .int .i64 d] 23)).alloc (Obj.cells #[.int .i64 0, .int .i64 0] 23)).cell? ⟨g, 0, none⟩ = some (.int .i64 e0) := (hb0.cell (p := ⟨g, 0, none⟩) hg).trans hc
  have hf0 : (((w.alloc (Obj.cells #[.int .i64 a, .int .i64 b] 23)).alloc (Obj.cells #[.int .i64 c, .int .i64 d] 23)).alloc (Obj.cells #[.int .i64 0, .int .i64 0] 23)).frozen? ⟨g, 0, none⟩ = false := (hb0.frozen (p := ⟨g, 0, none⟩) hg).trans hf
  have c0 : (((w.alloc (Obj.cells #[.int .i64 a, .int .i64 b] 23)).alloc (Obj.cells #[.int .i64 c, .int .i64 d] 23)).alloc (Obj.cells #[.int .i64 0, .int .i64 0] 23)).cell? ⟨w.heap.size + 1 + 1, 0, none⟩ = some (.int .i64 0) := by go_cell
  have c1 : (((w.alloc (Obj.cells #[.int .i64 a, .int .i64 b] 23)).alloc (Obj.cells #[.int .i64 c, .int .i64 d] 23)).alloc (Obj.cells #[.int .i64 0, .int .i64 0] 23)).cell? ⟨w.heap.size + 1 + 1, 1, none⟩ = some (.int .i64 0) := by go_cell
  have f0 : (((w.alloc (Obj.cells #[.int .i64 a, .int .i64 b] 23)).alloc (Obj.cells #[.int .i64 c, .int .i64 d] 23)).alloc (Obj.cells #[.int .i64 0, .int .i64 0] 23)).frozen? ⟨w.heap.size + 1 + 1, 0, none⟩ = false := by go_cell
  have f1 : (((w.alloc (Obj.cells #[.int .i64 a, .int .i64 b] 23)).alloc (Obj.cells #[.int .i64 c, .int .i64 d] 23)).alloc (Obj.cells #[.int .i64 0, .int .i64 0] 23)).frozen? ⟨w.heap.size + 1 + 1, 1, none⟩ = false := by go_cell
  have hz : w.heap.size + 1 + 1 < (((w.alloc (Obj.cells #[.int .i64 a, .int .i64 b] 23)).alloc (Obj.cells #[.int .i64 c, .int .i64 d] 23)).alloc (Obj.cells #[.int .i64 0, .int .i64 0] 23)).heap.size := by simp
  generalize (((w.alloc (Obj.cells #[.int .i64 a, .int .i64 b] 23)).alloc (Obj.cells #[.int .i64 c, .int .i64 d] 23)).alloc (Obj.cells #[.int .i64 0, .int .i64 0] 23)) = W at *
  have HB0 := Lib.hid hb0
  clear hb0 hc hf
  refine (rSpan_any (a - d) (b - c) e0 g _ hc0 hf0).mono ?_
  rw [HR.out]
  rintro e w1 ⟨he, hb⟩
  obtain rfl : e = .returned (.agg #[.int .i64 p, .int .i64 q]) := he
  obtain ⟨k1, k2⟩ := hb.cells
  have HW0 := Lib.hid ((Wk.of_below HB0.out hc0 hf0).trans (hb.mono HB0.out.size))
  have s1 : w.heap.size + 1 + 1 < w1.heap.size := by have hs := hb.size; omega
  have c0' := (k1 (w.heap.size + 1 + 1) 0 (by omega) (by omega)).trans c0
  have c1' := (k1 (w.heap.size + 1 + 1) 1 (by omega) (by omega)).trans c1
  have f0' := (k2 (w.heap.size + 1 + 1) 0 (by omega) (by omega)).trans f0
  have f1' := (k2 (w.heap.size + 1 + 1) 1 (by omega) (by omega)).trans f1
  clear hb k1 k2 hc0 hf0 c0 c1 f0 f1
  have D1 : Below w.heap.size w1 w1 := Below.refl _ _
  go_wp2_with fail
  refine bodyPost_ret (v := .agg #[.int .i64 p, .int .i64 q]) (by simp [results, Try.results119, go_sem, *]) rfl ⟨rfl, HW0.out.then (by go_grown) hg⟩

/-- The last step: the result, or nothing with an error. -/
def fin (x : Rc) (e : Int) : Out Rc := if e = 0 then .ok x else .bad e
set_option maxRecDepth 100000 in
set_option maxHeartbeats 4000000 in
theorem rDone_any (a b c d e0 : Int) (g : Nat) (w : World) (hc : w.cell? ⟨g, 0, none⟩ = some (.int .i64 e0)) :
    Calls Try.prog 66 #[.pointer (some ⟨g, 0, none⟩), .agg #[.int .i64 a, .int .i64 b, .int .i64 c, .int .i64 d]] w fun e w' => e = OutR (fin ⟨⟨a, b⟩, ⟨c, d⟩⟩ e0) ∧ Below w.heap.size w w' := by
  have hg : g < w.heap.size := World.block_lt_of_cell? w _ hc
  have hn1 : ¬ g = w.heap.size := by omega
  by_cases he : e0 = 0
  · subst he
    go_enter Try.func66, Try.ntmps66
    go_wp2_with fail
    refine bodyPost_ret (v := .tuple #[.agg #[.int .i64 a, .int .i64 b, .int .i64 c, .int .i64 d], .int .i64 0]) (by simp [results, Try.results66, go_sem, *]) rfl ⟨rfl, by go_grown⟩
  · have HE : Hid (fin ⟨⟨a, b⟩, ⟨c, d⟩⟩ e0 = .bad e0) := Lib.hid (if_neg he)
    rw [HE.out]
    have hb1 : (e0 != 0) = true := bne_iff_ne.2 he
    clear he
    go_enter Try.func66, Try.ntmps66
    go_wp2_with fail
    have hb0 : Below w.heap.size w ((w.alloc (Obj.cells #[.int .i64 a, .int .i64 b, .int .i64 c, .int .i64 d] 25)).alloc (Obj.cells #[.int .i64 0, .int .i64 0, .int .i64 0, .int .i64 0] 25)) := by go_grown
    have q0 : ((w.alloc (Obj.cells #[.int .i64 a, .int .i64 b, .int .i64 c, .int .i64 d] 25)).alloc (Obj.cells #[.int .i64 0, .int .i64 0, .int .i64 0, .int .i64 0] 25)).cell? ⟨g, 0, none⟩ = some (.int .i64 e0) := (hb0.cell (p := ⟨g, 0, none⟩) hg).trans hc
    have c0 : ((w.alloc (Obj.cells #[.int .i64 a, .int .i64 b, .int .i64 c, .int .i64 d] 25)).alloc (Obj.cells #[.int .i64 0, .int .i64 0, .int .i64 0, .int .i64 0] 25)).cell? ⟨w.heap.size + 1, 0, none⟩ = some (.int .i64 0) := by go_cell
    have f0 : ((w.alloc (Obj.cells #[.int .i64 a, .int .i64 b, .int .i64 c, .int .i64 d] 25)).alloc (Obj.cells #[.int .i64 0, .int .i64 0, .int .i64 0, .int .i64 0] 25)).frozen? ⟨w.heap.size + 1, 0, none⟩ = false := by go_cell
    have c1 : ((w.alloc (Obj.cells #[.int .i64 a, .int .i64 b, .int .i64 c, .int .i64 d] 25)).alloc (Obj.cells #[.int .i64 0, .int .i64 0, .int .i64 0, .int .i64 0] 25)).cell? ⟨w.heap.size + 1, 1, none⟩ = some (.int .i64 0) := by go_cell
    have f1 : ((w.alloc (Obj.cells #[.int .i64 a, .int .i64 b, .int .i64 c, .int .i64 d] 25)).alloc (Obj.cells #[.int .i64 0, .int .i64 0, .int .i64 0, .int .i64 0] 25)).frozen? ⟨w.heap.size + 1, 1, none⟩ = false := by go_cell
    have c2 : ((w.alloc (Obj.cells #[.int .i64 a, .int .i64 b, .int .i64 c, .int .i64 d] 25)).alloc (Obj.cells #[.int .i64 0, .int .i64 0, .int .i64 0, .int .i64 0] 25)).cell? ⟨w.heap.size + 1, 2, none⟩ = some (.int .i64 0) := by go_cell
    have f2 : ((w.alloc (Obj.cells #[.int .i64 a, .int .i64 b, .int .i64 c, .int .i64 d] 25)).alloc (Obj.cells #[.int .i64 0, .int .i64 0, .int .i64 0, .int .i64 0] 25)).frozen? ⟨w.heap.size + 1, 2, none⟩ = false := by go_cell
    have c3 : ((w.alloc (Obj.cells #[.int .i64 a, .int .i64 b, .int .i64 c, .int .i64 d] 25)).alloc (Obj.cells #[.int .i64 0, .int .i64 0, .int .i64 0, .int .i64 0] 25)).cell? ⟨w.heap.size + 1, 3, none⟩ = some (.int .i64 0) := by go_cell
    have f3 : ((w.alloc (Obj.cells #[.int .i64 a, .int .i64 b, .int .i64 c, .int .i64 d] 25)).alloc (Obj.cells #[.int .i64 0, .int .i64 0, .int .i64 0, .int .i64 0] 25)).frozen? ⟨w.heap.size + 1, 3, none⟩ = false := by go_cell
    generalize ((w.alloc (Obj.cells #[.int .i64 a, .int .i64 b, .int .i64 c, .int .i64 d] 25)).alloc (Obj.cells #[.int .i64 0, .int .i64 0, .int .i64 0, .int .i64 0] 25)) = W at *
    have hng : ¬ g = w.heap.size + 1 := by omega
    refine wp_region_held_drew (S := fun w' => w'.cell? ⟨g, 0, none⟩ = some (.int .i64 e0)) (by kernel_rfl) (by go_cell) (fun hHeld => ?_)
    refine wpAnyH_take (i := 0) (oi := _) (v := ?_) rfl (by kernel_rfl) (by kernel_rfl) (by kernel_rfl) (fun _ _ _ h => h) (Or.inl ⟨by rfl, ?_⟩) (by assumption) ?_
    rotate_left
    · intro w hSw; go_simp; (try with_reducible rfl)
    try change wpAnyH _ _ _ _ _ _ _ (Act.put _ (some 11) _) _
    try simp only [act_all]
    refine wpAnyH_take (i := 1) (oi := _) (v := ?_) rfl (by kernel_rfl) (by kernel_rfl) (by kernel_rfl) (fun _ _ _ h => h) (Or.inl ⟨by rfl, ?_⟩) (by assumption) ?_
    rotate_left
    · intro w hSw; go_simp; (try with_reducible rfl)
    try change wpAnyH _ _ _ _ _ _ _ (Act.put _ (some 12) _) _
    try simp only [act_all]
    refine wpAnyH_take (i := 2) (oi := _) (v := ?_) rfl (by kernel_rfl) (by kernel_rfl) (by kernel_rfl) (fun _ _ _ h => h) (Or.inl ⟨by rfl, ?_⟩) (by assumption) ?_
    rotate_left
    · intro w hSw; go_simp; (try with_reducible rfl)
    try change wpAnyH _ _ _ _ _ _ _ (Act.put _ (some 13) _) _
    try simp only [act_all]
    refine wpAnyH_take (i := 3) (oi := _) (v := ?_) rfl (by kernel_rfl) (by kernel_rfl) (by kernel_rfl) (fun _ _ _ h => h) (Or.inl ⟨by rfl, ?_⟩) (by assumption) ?_
    rotate_left
    · intro w hSw; go_simp; (try with_reducible rfl)
    try change wpAnyH _ _ _ _ _ _ _ (Act.put _ (some 14) _) _
    try simp only [act_all]
    refine wpAnyH_take (i := 4) (oi := _) (v := ?_) rfl (by kernel_rfl) (by kernel_rfl) (by kernel_rfl) (fun _ _ _ h => h) (Or.inl ⟨by rfl, ?_⟩) (by assumption) ?_
    rotate_left
    · intro w hSw; go_simp; (try with_reducible rfl)
    try change wpAnyH _ _ _ _ _ _ _ (Act.put _ (some 15) _) _
    try simp only [act_all]
    refine wpAnyH_ready (rs := [5]) (by kernel_rfl) (by simp) ?_
    refine AllReadyH.cons (o := _) rfl (fun K hK => ?_) AllReadyH.nil
    go_simp
    refine hK.out _ _ (by go_cell) (fun hHeld => ?_)
    clear hK K
    try simp only [act_all]
    refine wpAnyH_take (i := 6) (oi := _) (v := ?_) rfl (by kernel_rfl) (by kernel_rfl) (by kernel_rfl) (fun _ _ _ h => h) (Or.inl ⟨by rfl, ?_⟩) (by assumption) ?_
    rotate_left
    · intro w hSw; go_simp; (try with_reducible rfl)
    try change wpAnyH _ _ _ _ _ _ _ (Act.put _ (some 5) _) _
    try simp only [act_all]
    refine wpAnyH_done (by kernel_rfl) ?_ _
    go_wp2_with fail
    refine bodyPost_ret (v := .tuple #[.agg #[.int .i64 0, .int .i64 0, .int .i64 0, .int .i64 0], .int .i64 e0]) (by simp [results, Try.results66, go_sem, *]) rfl ⟨rfl, by go_grown⟩

set_option maxRecDepth 100000 in
set_option maxHeartbeats 4000000 in
theorem rBoth_any (a b c d s t u v : Int) (w : World) :
    Calls Try.prog 64 #[.agg #[.int .i64 a, .int .i64 b, .int .i64 c, .int .i64 d], .agg #[.int .i64 s, .int .i64 t, .int .i64 u, .int .i64 v]] w fun e w' => e = .returned (.bool (okTo (two ⟨⟨a, b⟩, ⟨c, d⟩⟩ ⟨⟨s, t⟩, ⟨u, v⟩⟩) 2)) ∧ Below w.heap.size w w' := by
  rw [two_iff]
  obtain ⟨b1, hb1⟩ : ∃ x, okR ⟨⟨a, b⟩, ⟨c, d⟩⟩ = x := ⟨_, rfl⟩
  obtain ⟨b2, hb2⟩ : ∃ x, okR ⟨⟨s, t⟩, ⟨u, v⟩⟩ = x := ⟨_, rfl⟩
  have H1 := Lib.hid hb1
  have H2 := Lib.hid hb2
  rw [hb1, hb2]
  clear hb1 hb2
  go_enter Try.func64, Try.ntmps64
  go_wp2_with fail
  refine (rValidRect_any a b c d _).mono ?_
  rw [H1.out]
  rintro e w1 ⟨rfl, hb⟩
  have D1 : Below w.heap.size w w1 := Below.trans (by go_grown) (hb.mono (by first | omega | (simp; done) | (simp; omega)))
  obtain ⟨k1, k2⟩ := bcl hb
  have y0 := (k1 (w.heap.size + 1) 0 (by simp)).trans (by go_cell : _ = some (.int .i64 s))
  have y1 := (k1 (w.heap.size + 1) 1 (by simp)).trans (by go_cell : _ = some (.int .i64 t))
  have y2 := (k1 (w.heap.size + 1) 2 (by simp)).trans (by go_cell : _ = some (.int .i64 u))
  have y3 := (k1 (w.heap.size + 1) 3 (by simp)).trans (by go_cell : _ = some (.int .i64 v))
  clear hb k1 k2
  cases b1 with
  | false =>
    go_wp2_with fail
    go_returns
    exact ⟨rfl, D1⟩
  | true =>
    go_wp2_with fail
    refine (rValidRect_any s t u v _).mono ?_
    rw [H2.out]
    rintro e w2 ⟨rfl, hb⟩
    have D2 := D1.trans (hb.mono D1.size)
    clear hb y0 y1 y2 y3
    go_wp2_with fail
    go_returns
    exact ⟨by cases b2 <;> rfl, D2⟩
end Go.Proofs.Ytgbnpnenejgnnaa
