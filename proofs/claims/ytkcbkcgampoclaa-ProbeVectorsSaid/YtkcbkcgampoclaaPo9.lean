import Derived.Test.YtkcbkcgampoclaaOc9
import Derived.Test.YtkcbkcgampoclaaFg9
namespace Go.Proofs.Ytkcbkcgampoclaa
open Go.RowKit Amp Prb
/-- Five numbers in a block. -/
def H5 (w : World) (g : Nat) (a b c d e : Int) : Prop := (w.cell? ⟨g, 0, none⟩ = some (.int .i64 a) ∧ w.cell? ⟨g, 1, none⟩ = some (.int .i64 b) ∧ w.cell? ⟨g, 2, none⟩ = some (.int .i64 c) ∧ w.cell? ⟨g, 3, none⟩ = some (.int .i64 d) ∧ w.cell? ⟨g, 4, none⟩ = some (.int .i64 e)) ∧ w.frozen? ⟨g, 0, none⟩ = false ∧ w.frozen? ⟨g, 1, none⟩ = false ∧ w.frozen? ⟨g, 2, none⟩ = false ∧ w.frozen? ⟨g, 3, none⟩ = false ∧ w.frozen? ⟨g, 4, none⟩ = false
theorem H5.keep {w w1 : World} {g : Nat} {a b c d e : Int} (h : H5 w g a b c d e) (hb : Below w.heap.size w w1) : H5 w1 g a b c d e := by
  obtain ⟨⟨a0, a1, a2, a3, a4⟩, f0, f1, f2, f3, f4⟩ := h
  have hB : g < w.heap.size := World.block_lt_of_cell? w _ a0
  exact ⟨⟨((bcl hb).1 _ _ hB).trans a0, ((bcl hb).1 _ _ hB).trans a1, ((bcl hb).1 _ _ hB).trans a2, ((bcl hb).1 _ _ hB).trans a3, ((bcl hb).1 _ _ hB).trans a4⟩, ((bcl hb).2 _ _ hB).trans f0, ((bcl hb).2 _ _ hB).trans f1, ((bcl hb).2 _ _ hB).trans f2, ((bcl hb).2 _ _ hB).trans f3, ((bcl hb).2 _ _ hB).trans f4⟩
def NumRet (z : Nm) : Ending := .returned (.agg #[.int .i64 z.v.a, .int .i64 z.v.b, .int .i64 z.v.c, .int .i64 z.v.d, .int .i64 z.k])
set_option maxRecDepth 100000 in
set_option maxHeartbeats 4000000 in
theorem along_any (x y : Int) (k : Nat) (hk : k < 8) (hxy : okV x y) (w : World) :
    Calls Try.prog 27 #[.agg #[.int .i64 x, .int .i64 0, .int .i64 y, .int .i64 0, .int .i64 0], .int .i64 k] w fun e w' => e = NumRet (alS x y k) ∧ Below w.heap.size w w' := by
  have H1 := Lib.hid (tuS hxy k)
  have H2 := Lib.hid (coS hxy k)
  have H3' := Lib.hid (adS hxy hk)
  obtain ⟨⟨a, b, c, d⟩, hT⟩ : ∃ v, tuC x y k = v := ⟨_, rfl⟩
  obtain ⟨⟨p, q, r, s⟩, hC⟩ : ∃ v, conj (tuC x y k) = v := ⟨_, rfl⟩
  obtain ⟨⟨⟨e0, e1, e2, e3⟩, e4⟩, hS⟩ : ∃ v, alS x y k = v := ⟨_, rfl⟩
  rw [hS]
  rw [hT] at hC
  have HT := Lib.hid hT
  have HC := Lib.hid hC
  have HS := Lib.hid hS
  have wk : wrap64 (-(k : Int)) = -(k : Int) := by simp only [wrap64]; omega
  clear hT hC hS hk
  go_enter Try.func27, Try.ntmps27
  go_wp2_with fail
  refine (Turn_any x 0 y 0 0 (-(k : Int)) _).mono ?_
  rw [H1.out, HT.out]
  unfold Ret5
  rintro e w1 ⟨rfl, hb⟩
  have T1_0 := (show H5 (_ : World) w.heap.size x 0 y 0 0 from (by refine ⟨⟨?_, ?_, ?_, ?_, ?_⟩, ?_, ?_, ?_, ?_, ?_⟩ <;> first | go_cell | assumption)).keep hb
  have T1_1 := (show H5 (_ : World) (w.heap.size + 1) 0 0 0 0 0 from (by refine ⟨⟨?_, ?_, ?_, ?_, ?_⟩, ?_, ?_, ?_, ?_, ?_⟩ <;> first | go_cell | assumption)).keep hb
  have HB1 := Lib.hid (show Below w.heap.size w w1 from Below.trans (by go_grown) (hb.mono (by first | omega | (simp; done) | (simp; omega))))
  have hs1 : (w.heap.size + 1) < w1.heap.size := by have h9 := hb.size; (try simp at h9); omega
  clear hb
  have hbl := HB1.out
  obtain ⟨⟨h1_0_0, h1_0_1, h1_0_2, h1_0_3, h1_0_4⟩, z1_0_0, z1_0_1, z1_0_2, z1_0_3, z1_0_4⟩ := T1_0
  obtain ⟨⟨h1_1_0, h1_1_1, h1_1_2, h1_1_3, h1_1_4⟩, z1_1_0, z1_1_1, z1_1_2, z1_1_3, z1_1_4⟩ := T1_1
  have l1_0 : w.heap.size < w1.heap.size := by omega
  have e1_0 : ¬ w.heap.size = w1.heap.size := by omega
  have f1_0 : ¬ w1.heap.size = w.heap.size := by omega
  have l1_1 : (w.heap.size + 1) < w1.heap.size := by omega
  have e1_1 : ¬ (w.heap.size + 1) = w1.heap.size := by omega
  have f1_1 : ¬ w1.heap.size = (w.heap.size + 1) := by omega
  go_wp2_with fail
  refine (Conj_any a b c d 0 _).mono ?_
  rw [show chgS ⟨⟨a, b, c, d⟩, 0⟩ conj = (⟨⟨p, q, r, s⟩, 0⟩, 0) from by have h := H2.out; rw [HT.out, HC.out] at h; exact h]
  unfold Ret5
  rintro e w2 ⟨rfl, hb⟩
  have T2_0 := (show H5 (_ : World) w.heap.size x 0 y 0 0 from (by refine ⟨⟨?_, ?_, ?_, ?_, ?_⟩, ?_, ?_, ?_, ?_, ?_⟩ <;> first | go_cell | assumption)).keep hb
  have T2_1 := (show H5 (_ : World) (w.heap.size + 1) 0 0 0 0 0 from (by refine ⟨⟨?_, ?_, ?_, ?_, ?_⟩, ?_, ?_, ?_, ?_, ?_⟩ <;> first | go_cell | assumption)).keep hb
  have T2_2 := (show H5 (_ : World) w1.heap.size a b c d 0 from (by refine ⟨⟨?_, ?_, ?_, ?_, ?_⟩, ?_, ?_, ?_, ?_, ?_⟩ <;> first | go_cell | assumption)).keep hb
  have HB2 := Lib.hid (show Below w.heap.size w w2 from Below.trans (by go_grown) (hb.mono (by first | omega | (simp; done) | (simp; omega))))
  have hs2 : w1.heap.size < w2.heap.size := by have h9 := hb.size; (try simp at h9); omega
  clear hb hbl h1_0_0 h1_0_1 h1_0_2 h1_0_3 h1_0_4 z1_0_0 z1_0_1 z1_0_2 z1_0_3 z1_0_4 h1_1_0 h1_1_1 h1_1_2 h1_1_3 h1_1_4 z1_1_0 z1_1_1 z1_1_2 z1_1_3 z1_1_4
  have hbl := HB2.out
  obtain ⟨⟨h2_0_0, h2_0_1, h2_0_2, h2_0_3, h2_0_4⟩, z2_0_0, z2_0_1, z2_0_2, z2_0_3, z2_0_4⟩ := T2_0
  obtain ⟨⟨h2_1_0, h2_1_1, h2_1_2, h2_1_3, h2_1_4⟩, z2_1_0, z2_1_1, z2_1_2, z2_1_3, z2_1_4⟩ := T2_1
  obtain ⟨⟨h2_2_0, h2_2_1, h2_2_2, h2_2_3, h2_2_4⟩, z2_2_0, z2_2_1, z2_2_2, z2_2_3, z2_2_4⟩ := T2_2
  have l2_0 : w.heap.size < w2.heap.size := by omega
  have e2_0 : ¬ w.heap.size = w2.heap.size := by omega
  have f2_0 : ¬ w2.heap.size = w.heap.size := by omega
  have l2_1 : (w.heap.size + 1) < w2.heap.size := by omega
  have e2_1 : ¬ (w.heap.size + 1) = w2.heap.size := by omega
  have f2_1 : ¬ w2.heap.size = (w.heap.size + 1) := by omega
  have l2_2 : w1.heap.size < w2.heap.size := by omega
  have e2_2 : ¬ w1.heap.size = w2.heap.size := by omega
  have f2_2 : ¬ w2.heap.size = w1.heap.size := by omega
  go_wp2_with fail
  refine (Add_any a b c d 0 p q r s 0 _).mono ?_
  rw [show addS ⟨⟨a, b, c, d⟩, 0⟩ ⟨⟨p, q, r, s⟩, 0⟩ = (⟨⟨e0, e1, e2, e3⟩, e4⟩, 0) from by have h := H3'.out; rw [HT.out, HC.out, HS.out] at h; exact h]
  unfold Ret5
  rintro e w3 ⟨rfl, hb⟩
  have T3_0 := (show H5 (_ : World) w.heap.size x 0 y 0 0 from (by refine ⟨⟨?_, ?_, ?_, ?_, ?_⟩, ?_, ?_, ?_, ?_, ?_⟩ <;> first | go_cell | assumption)).keep hb
  have T3_1 := (show H5 (_ : World) (w.heap.size + 1) 0 0 0 0 0 from (by refine ⟨⟨?_, ?_, ?_, ?_, ?_⟩, ?_, ?_, ?_, ?_, ?_⟩ <;> first | go_cell | assumption)).keep hb
  have T3_2 := (show H5 (_ : World) w1.heap.size a b c d 0 from (by refine ⟨⟨?_, ?_, ?_, ?_, ?_⟩, ?_, ?_, ?_, ?_, ?_⟩ <;> first | go_cell | assumption)).keep hb
  have T3_3 := (show H5 (_ : World) w2.heap.size p q r s 0 from (by refine ⟨⟨?_, ?_, ?_, ?_, ?_⟩, ?_, ?_, ?_, ?_, ?_⟩ <;> first | go_cell | assumption)).keep hb
  have HB3 := Lib.hid (show Below w.heap.size w w3 from Below.trans (by go_grown) (hb.mono (by first | omega | (simp; done) | (simp; omega))))
  have hs3 : w2.heap.size < w3.heap.size := by have h9 := hb.size; (try simp at h9); omega
  clear hb hbl h2_0_0 h2_0_1 h2_0_2 h2_0_3 h2_0_4 z2_0_0 z2_0_1 z2_0_2 z2_0_3 z2_0_4 h2_1_0 h2_1_1 h2_1_2 h2_1_3 h2_1_4 z2_1_0 z2_1_1 z2_1_2 z2_1_3 z2_1_4 h2_2_0 h2_2_1 h2_2_2 h2_2_3 h2_2_4 z2_2_0 z2_2_1 z2_2_2 z2_2_3 z2_2_4
  have hbl := HB3.out
  obtain ⟨⟨h3_0_0, h3_0_1, h3_0_2, h3_0_3, h3_0_4⟩, z3_0_0, z3_0_1, z3_0_2, z3_0_3, z3_0_4⟩ := T3_0
  obtain ⟨⟨h3_1_0, h3_1_1, h3_1_2, h3_1_3, h3_1_4⟩, z3_1_0, z3_1_1, z3_1_2, z3_1_3, z3_1_4⟩ := T3_1
  obtain ⟨⟨h3_2_0, h3_2_1, h3_2_2, h3_2_3, h3_2_4⟩, z3_2_0, z3_2_1, z3_2_2, z3_2_3, z3_2_4⟩ := T3_2
  obtain ⟨⟨h3_3_0, h3_3_1, h3_3_2, h3_3_3, h3_3_4⟩, z3_3_0, z3_3_1, z3_3_2, z3_3_3, z3_3_4⟩ := T3_3
  have l3_0 : w.heap.size < w3.heap.size := by omega
  have e3_0 : ¬ w.heap.size = w3.heap.size := by omega
  have f3_0 : ¬ w3.heap.size = w.heap.size := by omega
  have l3_1 : (w.heap.size + 1) < w3.heap.size := by omega
  have e3_1 : ¬ (w.heap.size + 1) = w3.heap.size := by omega
  have f3_1 : ¬ w3.heap.size = (w.heap.size + 1) := by omega
  have l3_2 : w1.heap.size < w3.heap.size := by omega
  have e3_2 : ¬ w1.heap.size = w3.heap.size := by omega
  have f3_2 : ¬ w3.heap.size = w1.heap.size := by omega
  have l3_3 : w2.heap.size < w3.heap.size := by omega
  have e3_3 : ¬ w2.heap.size = w3.heap.size := by omega
  have f3_3 : ¬ w3.heap.size = w2.heap.size := by omega
  go_wp2_with fail
  refine bodyPost_ret (v := .agg #[.int .i64 e0, .int .i64 e1, .int .i64 e2, .int .i64 e3, .int .i64 e4]) (by simp [results, Try.results27, go_sem, *]) rfl ⟨rfl, by go_grown⟩
end Go.Proofs.Ytkcbkcgampoclaa
