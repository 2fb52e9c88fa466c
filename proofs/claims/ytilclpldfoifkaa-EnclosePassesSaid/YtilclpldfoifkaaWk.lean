import Derived.Test.YtilclpldfoifkaaMe
import Derived.Deep.DeepCutAuto
namespace Encl
/-- The document's own way: the first error stays, and nothing is done behind it. -/
def rn (e : Int) (o : Out Sp) : Sp × Int := if e = 0 then (match o with | .ok s => (s, 0) | .bad k => (S0, k)) else (S0, e)
theorem rn_ok (s : Sp) : rn 0 (.ok s) = (s, 0) := rfl
theorem rn_bad (k : Int) : rn 0 (.bad k) = (S0, k) := rfl
theorem rn_err {e : Int} (h : ¬ e = 0) (o : Out Sp) : rn e o = (S0, e) := if_neg h
end Encl
namespace Go.Proofs.Ytilclpldfoifkaa
open Go.RowKit Encl
/-- Below B all is as it was but for the one cell of block g, which holds e. -/
structure Wk (g : Nat) (e : Int) (B : Nat) (w w' : World) : Prop where
  os : w'.os = w.os
  tape : w'.tape = w.tape
  output : w'.output = w.output
  size : w.heap.size ≤ w'.heap.size
  block : ∀ k, k < B → ¬ k = g → w'.heap[k]? = w.heap[k]?
  cell : w'.cell? ⟨g, 0, none⟩ = some (.int .i64 e)
  free : w'.frozen? ⟨g, 0, none⟩ = false
theorem Wk.of_below {g : Nat} {e : Int} {B : Nat} {w w' : World} (h : Below B w w') (hc : w'.cell? ⟨g, 0, none⟩ = some (.int .i64 e)) (hf : w'.frozen? ⟨g, 0, none⟩ = false) : Wk g e B w w' :=
  ⟨h.os, h.tape, h.output, h.size, fun k hk _ => h.block k hk, hc, hf⟩
theorem Wk.below {g : Nat} {e : Int} {B B' : Nat} {w w' : World} (h : Wk g e B w w') (h1 : B' ≤ g) (h2 : B' ≤ B) : Below B' w w' :=
  ⟨h.os, h.tape, h.output, h.size, fun k hk => h.block k (by omega) (by omega)⟩
theorem Wk.trans {g : Nat} {e e' : Int} {B : Nat} {a b c : World} (h : Wk g e B a b) (k : Wk g e' B b c) : Wk g e' B a c :=
  ⟨k.os.trans h.os, k.tape.trans h.tape, k.output.trans h.output, Nat.le_trans h.size k.size, fun i hi hn => (k.block i hi hn).trans (h.block i hi hn), k.cell, k.free⟩
theorem Wk.mono {g : Nat} {e : Int} {B B' : Nat} {w w' : World} (h : Wk g e B w w') (hB : B' ≤ B) : Wk g e B' w w' :=
  ⟨h.os, h.tape, h.output, h.size, fun k hk hn => h.block k (by omega) hn, h.cell, h.free⟩
theorem Wk.then {g : Nat} {e : Int} {B : Nat} {a b c : World} (h : Wk g e B a b) (k : Below B b c) (hg : g < B) : Wk g e B a c :=
  ⟨k.os.trans h.os, k.tape.trans h.tape, k.output.trans h.output, Nat.le_trans h.size k.size, fun i hi hn => (k.block i hi).trans (h.block i hi hn), (k.cell (p := ⟨g, 0, none⟩) hg).trans h.cell, (k.frozen (p := ⟨g, 0, none⟩) hg).trans h.free⟩
theorem Wk.set {g : Nat} {e : Int} {B : Nat} {a b : World} (h : Wk g e B a b) (e' : Int) : Wk g e' B a (b.setCell ⟨g, 0, none⟩ (.int .i64 e')) := by
  refine ⟨h.os, h.tape, h.output, by simpa using h.size, fun k hk hn => (Below.heap_setCell _ _ _ _ hn).trans (h.block k hk hn), ?_, (World.frozen?_setCell _ _ _ _).trans h.free⟩
  have := h.cell
  go_cell
theorem Wk.cells {g : Nat} {e : Int} {w w1 : World} (h : Wk g e w.heap.size w w1) : (∀ b o, b < w.heap.size → ¬ b = g → w1.cell? ⟨b, o, none⟩ = w.cell? ⟨b, o, none⟩) ∧ (∀ b o, b < w.heap.size → ¬ b = g → w1.frozen? ⟨b, o, none⟩ = w.frozen? ⟨b, o, none⟩) :=
  ⟨fun b _ hb hn => World.cell?_of_block (w := w) (h.block b hb hn), fun b _ hb hn => World.frozen?_of_block (w := w) (h.block b hb hn)⟩

set_option maxRecDepth 100000 in
set_option maxHeartbeats 4000000 in
theorem rSpan_any (lo hi e0 : Int) (g : Nat) (w : World) (hc : w.cell? ⟨g, 0, none⟩ = some (.int .i64 e0)) (hf : w.frozen? ⟨g, 0, none⟩ = false) :
    Calls Try.prog 112 #[.pointer (some ⟨g, 0, none⟩), .int .i64 lo, .int .i64 hi] w fun e w' => e = retS (rn e0 (inR ⟨lo, hi⟩)).1 ∧ Wk g (rn e0 (inR ⟨lo, hi⟩)).2 w.heap.size w w' := by
  have hg : g < w.heap.size := World.block_lt_of_cell? w _ hc
  by_cases he : e0 = 0
  · subst he
    by_cases hok : okS ⟨lo, hi⟩ = true
    · rw [inR_ok hok, rn_ok]
      have HO := Lib.hid hok
      clear hok
      go_enter Try.func112, Try.ntmps112
      go_wp2_with fail
      refine (rValid_any lo hi _).mono ?_
      rw [HO.out]
      rintro e w1 ⟨rfl, hb⟩
      have D1 : Below w.heap.size w w1 := Below.trans (by go_grown) (hb.mono (by first | omega | (simp; done) | (simp; omega)))
      have s1 : w.heap.size + 1 < w1.heap.size := by have hs := hb.size; (try simp at hs); omega
      obtain ⟨k1, k2⟩ := bcl hb
      have a0 := (k1 g 0 (by first | omega | (simp; done) | (simp; omega))).trans (by go_cell : _ = some (.int .i64 0))
      have b0 := (k2 g 0 (by first | omega | (simp; done) | (simp; omega))).trans (by go_cell : _ = false)
      have c0 := (k1 w.heap.size 0 (by simp; omega)).trans (by go_cell : _ = some (.int .i64 0))
      have c1 := (k1 w.heap.size 1 (by simp; omega)).trans (by go_cell : _ = some (.int .i64 0))
      have f0 := (k2 w.heap.size 0 (by simp; omega)).trans (by go_cell : _ = false)
      have f1 := (k2 w.heap.size 1 (by simp; omega)).trans (by go_cell : _ = false)
      have x0 := (k1 (w.heap.size + 1) 0 (by simp)).trans (by go_cell : _ = some (.int .i64 lo))
      have x1 := (k1 (w.heap.size + 1) 1 (by simp)).trans (by go_cell : _ = some (.int .i64 hi))
      clear hb k1 k2 hc hf
      have hn1 : ¬ g = w.heap.size := by omega
      go_wp2_with fail
      refine bodyPost_ret (v := .agg #[.int .i64 lo, .int .i64 hi]) (by simp [results, Try.results112, go_sem, *]) rfl ⟨rfl, Wk.of_below (by go_grown) (by go_cell) (by go_cell)⟩
    · have HO : Hid (okS ⟨lo, hi⟩ = false) := Lib.hid (by simpa using hok)
      rw [inR_bad hok, rn_bad]
      clear hok
      go_enter Try.func112, Try.ntmps112
      go_wp2_with fail
      refine (rValid_any lo hi _).mono ?_
      rw [HO.out]
      rintro e w1 ⟨rfl, hb⟩
      have D1 : Below w.heap.size w w1 := Below.trans (by go_grown) (hb.mono (by first | omega | (simp; done) | (simp; omega)))
      have s1 : w.heap.size + 1 < w1.heap.size := by have hs := hb.size; (try simp at hs); omega
      obtain ⟨k1, k2⟩ := bcl hb
      have a0 := (k1 g 0 (by first | omega | (simp; done) | (simp; omega))).trans (by go_cell : _ = some (.int .i64 0))
      have b0 := (k2 g 0 (by first | omega | (simp; done) | (simp; omega))).trans (by go_cell : _ = false)
      have c0 := (k1 w.heap.size 0 (by simp; omega)).trans (by go_cell : _ = some (.int .i64 0))
      have c1 := (k1 w.heap.size 1 (by simp; omega)).trans (by go_cell : _ = some (.int .i64 0))
      have f0 := (k2 w.heap.size 0 (by simp; omega)).trans (by go_cell : _ = false)
      have f1 := (k2 w.heap.size 1 (by simp; omega)).trans (by go_cell : _ = false)
      clear hb k1 k2 hc hf
      have hn1 : ¬ g = w.heap.size := by omega
      go_upto_region 4 with fail
      have HW := (Wk.of_below D1 a0 b0).set 4
      have q0 : (w1.setCell ⟨g, 0, none⟩ (.int .i64 4)).cell? ⟨g, 0, none⟩ = some (.int .i64 4) := by go_cell
      have q1 : (w1.setCell ⟨g, 0, none⟩ (.int .i64 4)).frozen? ⟨g, 0, none⟩ = false := by go_cell
      have q2 : (w1.setCell ⟨g, 0, none⟩ (.int .i64 4)).cell? ⟨w.heap.size, 0, none⟩ = some (.int .i64 0) := by go_cell
      have q3 : (w1.setCell ⟨g, 0, none⟩ (.int .i64 4)).cell? ⟨w.heap.size, 1, none⟩ = some (.int .i64 0) := by go_cell
      have q4 : (w1.setCell ⟨g, 0, none⟩ (.int .i64 4)).frozen? ⟨w.heap.size, 0, none⟩ = false := by go_cell
      have q5 : (w1.setCell ⟨g, 0, none⟩ (.int .i64 4)).frozen? ⟨w.heap.size, 1, none⟩ = false := by go_cell
      generalize w1.setCell ⟨g, 0, none⟩ (.int .i64 4) = w2 at *
      have HWH := Lib.hid HW
      clear HW D1 a0 b0 c0 c1 f0 f1
      have D2 : Below w.heap.size w2 w2 := Below.refl _ _
      go_wp2_with fail
      refine bodyPost_ret (v := .agg #[.int .i64 0, .int .i64 0]) (by simp [results, Try.results112, go_sem, *]) rfl ⟨rfl, HWH.out.then (by go_grown) hg⟩
  · rw [rn_err he]
    have hb1 : (e0 == 0) = false := beq_eq_false_iff_ne.2 he
    have hb2 : (e0 != 0) = true := bne_iff_ne.2 he
    clear he
    have hn1 : ¬ g = w.heap.size := by omega
    go_enter Try.func112, Try.ntmps112
    go_wp2_with fail
    refine bodyPost_ret (v := .agg #[.int .i64 0, .int .i64 0]) (by simp [results, Try.results112, go_sem, *]) rfl ⟨rfl, Wk.of_below (by go_grown) (by go_cell) (by go_cell)⟩
end Go.Proofs.Ytilclpldfoifkaa
