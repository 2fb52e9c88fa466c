import Derived.Test.YtilclpldfoifkaaMk
import Derived.Test.YtilclpldfoifkaaAw5
namespace Go.Proofs.Ytilclpldfoifkaa
open Go.RowKit Encl

set_option maxRecDepth 100000 in
set_option maxHeartbeats 8000000 in
theorem EncloseMeets_any (a b c d s t u v : Int) (w : World) :
    Calls Try.prog 4 #[.agg #[.int .i64 a, .int .i64 b, .int .i64 c, .int .i64 d], .agg #[.int .i64 s, .int .i64 t, .int .i64 u, .int .i64 v]] w fun e w' => e = .returned (.bool true) ∧ Below w.heap.size w w' := by
  obtain ⟨ib, ie, hi⟩ : ∃ ib ie, insideS ⟨⟨a, b⟩, ⟨c, d⟩⟩ ⟨⟨s, t⟩, ⟨u, v⟩⟩ = (ib, ie) := ⟨_, _, rfl⟩
  obtain ⟨p, q, p', q', mb, me, hm⟩ : ∃ p q p' q' mb me, meetRS ⟨⟨a, b⟩, ⟨c, d⟩⟩ ⟨⟨s, t⟩, ⟨u, v⟩⟩ = (⟨⟨p, q⟩, ⟨p', q'⟩⟩, mb, me) := ⟨_, _, _, _, _, _, rfl⟩
  obtain ⟨mw, we, hw⟩ : ∃ mw we, widthS ⟨⟨a, b⟩, ⟨c, d⟩⟩ = (mw, we) := ⟨_, _, rfl⟩
  have HI := Lib.hid hi
  have HM := Lib.hid hm
  have HW := Lib.hid hw
  clear hi hm hw
  go_enter Try.func4, Try.ntmps4
  go_wp2_with fail
  refine (eInside_any a b c d s t u v _).mono ?_
  rw [HI.out]
  rintro e w1 ⟨rfl, hb⟩
  (try simp only)
  have D1 : Below w.heap.size w w1 := Below.trans (by go_grown) (hb.mono (by first | omega | (simp; done) | (simp; omega)))
  obtain ⟨k1, k2⟩ := bcl hb
  have c1_0_0 := (k1 (w.heap.size) 0 (by first | omega | (simp; done) | (simp; omega))).trans (by go_cell : _ = some (.int .i64 a))
  have c1_0_1 := (k1 (w.heap.size) 1 (by first | omega | (simp; done) | (simp; omega))).trans (by go_cell : _ = some (.int .i64 b))
  have c1_0_2 := (k1 (w.heap.size) 2 (by first | omega | (simp; done) | (simp; omega))).trans (by go_cell : _ = some (.int .i64 c))
  have c1_0_3 := (k1 (w.heap.size) 3 (by first | omega | (simp; done) | (simp; omega))).trans (by go_cell : _ = some (.int .i64 d))
  have c1_1_0 := (k1 (w.heap.size + 1) 0 (by first | omega | (simp; done) | (simp; omega))).trans (by go_cell : _ = some (.int .i64 s))
  have c1_1_1 := (k1 (w.heap.size + 1) 1 (by first | omega | (simp; done) | (simp; omega))).trans (by go_cell : _ = some (.int .i64 t))
  have c1_1_2 := (k1 (w.heap.size + 1) 2 (by first | omega | (simp; done) | (simp; omega))).trans (by go_cell : _ = some (.int .i64 u))
  have c1_1_3 := (k1 (w.heap.size + 1) 3 (by first | omega | (simp; done) | (simp; omega))).trans (by go_cell : _ = some (.int .i64 v))
  have l1_0 : w.heap.size < w1.heap.size := by have hs := hb.size; (try simp at hs); omega
  have l1_1 : w.heap.size + 1 < w1.heap.size := by have hs := hb.size; (try simp at hs); omega
  clear hb k1 k2
  go_wp2_with fail
  refine (rInside_any a b c d s t u v ie ib _ HI.out).mono ?_
  rintro e w2 ⟨rfl, hb⟩
  (try simp only)
  have D2 : Below w.heap.size w w2 := Below.trans (by go_grown) (hb.mono (by have := D1.size; first | omega | (simp; done) | (simp; omega)))
  obtain ⟨k1, k2⟩ := bcl hb
  have c2_0_0 := (k1 (w.heap.size) 0 (by first | omega | (simp; done) | (simp; omega))).trans (by go_cell : _ = some (.int .i64 a))
  have c2_0_1 := (k1 (w.heap.size) 1 (by first | omega | (simp; done) | (simp; omega))).trans (by go_cell : _ = some (.int .i64 b))
  have c2_0_2 := (k1 (w.heap.size) 2 (by first | omega | (simp; done) | (simp; omega))).trans (by go_cell : _ = some (.int .i64 c))
  have c2_0_3 := (k1 (w.heap.size) 3 (by first | omega | (simp; done) | (simp; omega))).trans (by go_cell : _ = some (.int .i64 d))
  have c2_1_0 := (k1 (w.heap.size + 1) 0 (by first | omega | (simp; done) | (simp; omega))).trans (by go_cell : _ = some (.int .i64 s))
  have c2_1_1 := (k1 (w.heap.size + 1) 1 (by first | omega | (simp; done) | (simp; omega))).trans (by go_cell : _ = some (.int .i64 t))
  have c2_1_2 := (k1 (w.heap.size + 1) 2 (by first | omega | (simp; done) | (simp; omega))).trans (by go_cell : _ = some (.int .i64 u))
  have c2_1_3 := (k1 (w.heap.size + 1) 3 (by first | omega | (simp; done) | (simp; omega))).trans (by go_cell : _ = some (.int .i64 v))
  have l2_0 : w.heap.size < w2.heap.size := by have hs := hb.size; (try simp at hs); omega
  have l2_1 : w.heap.size + 1 < w2.heap.size := by have hs := hb.size; (try simp at hs); omega
  clear hb k1 k2 D1 c1_0_0 c1_0_1 c1_0_2 c1_0_3 c1_1_0 c1_1_1 c1_1_2 c1_1_3
  go_wp2_with fail
  refine (eMeet_any a b c d s t u v p q p' q' me mb _ HM.out).mono ?_
  rintro e w3 ⟨rfl, hb⟩
  (try simp only)
  have D3 : Below w.heap.size w w3 := Below.trans (by go_grown) (hb.mono (by have := D2.size; first | omega | (simp; done) | (simp; omega)))
  obtain ⟨k1, k2⟩ := bcl hb
  have c3_0_0 := (k1 (w.heap.size) 0 (by first | omega | (simp; done) | (simp; omega))).trans (by go_cell : _ = some (.int .i64 a))
  have c3_0_1 := (k1 (w.heap.size) 1 (by first | omega | (simp; done) | (simp; omega))).trans (by go_cell : _ = some (.int .i64 b))
  have c3_0_2 := (k1 (w.heap.size) 2 (by first | omega | (simp; done) | (simp; omega))).trans (by go_cell : _ = some (.int .i64 c))
  have c3_0_3 := (k1 (w.heap.size) 3 (by first | omega | (simp; done) | (simp; omega))).trans (by go_cell : _ = some (.int .i64 d))
  have c3_1_0 := (k1 (w.heap.size + 1) 0 (by first | omega | (simp; done) | (simp; omega))).trans (by go_cell : _ = some (.int .i64 s))
  have c3_1_1 := (k1 (w.heap.size + 1) 1 (by first | omega | (simp; done) | (simp; omega))).trans (by go_cell : _ = some (.int .i64 t))
  have c3_1_2 := (k1 (w.heap.size + 1) 2 (by first | omega | (simp; done) | (simp; omega))).trans (by go_cell : _ = some (.int .i64 u))
  have c3_1_3 := (k1 (w.heap.size + 1) 3 (by first | omega | (simp; done) | (simp; omega))).trans (by go_cell : _ = some (.int .i64 v))
  have l3_0 : w.heap.size < w3.heap.size := by have hs := hb.size; (try simp at hs); omega
  have l3_1 : w.heap.size + 1 < w3.heap.size := by have hs := hb.size; (try simp at hs); omega
  clear hb k1 k2 D2 c2_0_0 c2_0_1 c2_0_2 c2_0_3 c2_1_0 c2_1_1 c2_1_2 c2_1_3
  go_wp2_with fail
  refine (rMeet_any a b c d s t u v p q p' q' me mb _ HM.out).mono ?_
  rintro e w4 ⟨rfl, hb⟩
  (try simp only)
  have D4 : Below w.heap.size w w4 := Below.trans (by go_grown) (hb.mono (by have := D3.size; first | omega | (simp; done) | (simp; omega)))
  obtain ⟨k1, k2⟩ := bcl hb
  have c4_0_0 := (k1 (w.heap.size) 0 (by first | omega | (simp; done) | (simp; omega))).trans (by go_cell : _ = some (.int .i64 a))
  have c4_0_1 := (k1 (w.heap.size) 1 (by first | omega | (simp; done) | (simp; omega))).trans (by go_cell : _ = some (.int .i64 b))
  have c4_0_2 := (k1 (w.heap.size) 2 (by first | omega | (simp; done) | (simp; omega))).trans (by go_cell : _ = some (.int .i64 c))
  have c4_0_3 := (k1 (w.heap.size) 3 (by first | omega | (simp; done) | (simp; omega))).trans (by go_cell : _ = some (.int .i64 d))
  have c4_1_0 := (k1 (w.heap.size + 1) 0 (by first | omega | (simp; done) | (simp; omega))).trans (by go_cell : _ = some (.int .i64 s))
  have c4_1_1 := (k1 (w.heap.size + 1) 1 (by first | omega | (simp; done) | (simp; omega))).trans (by go_cell : _ = some (.int .i64 t))
  have c4_1_2 := (k1 (w.heap.size + 1) 2 (by first | omega | (simp; done) | (simp; omega))).trans (by go_cell : _ = some (.int .i64 u))
  have c4_1_3 := (k1 (w.heap.size + 1) 3 (by first | omega | (simp; done) | (simp; omega))).trans (by go_cell : _ = some (.int .i64 v))
  have c4_2_0 := (k1 (w3.heap.size) 0 (by first | omega | (simp; done) | (simp; omega))).trans (by go_cell : _ = some (.int .i64 p))
  have c4_2_1 := (k1 (w3.heap.size) 1 (by first | omega | (simp; done) | (simp; omega))).trans (by go_cell : _ = some (.int .i64 q))
  have c4_2_2 := (k1 (w3.heap.size) 2 (by first | omega | (simp; done) | (simp; omega))).trans (by go_cell : _ = some (.int .i64 p'))
  have c4_2_3 := (k1 (w3.heap.size) 3 (by first | omega | (simp; done) | (simp; omega))).trans (by go_cell : _ = some (.int .i64 q'))
  have l4_0 : w.heap.size < w4.heap.size := by have hs := hb.size; (try simp at hs); omega
  have l4_1 : w.heap.size + 1 < w4.heap.size := by have hs := hb.size; (try simp at hs); omega
  have l4_2 : w3.heap.size < w4.heap.size := by have hs := hb.size; (try simp at hs); omega
  clear hb k1 k2 D3 c3_0_0 c3_0_1 c3_0_2 c3_0_3 c3_1_0 c3_1_1 c3_1_2 c3_1_3
  go_wp2_with fail
  refine (eWidth_any a b c d mw we _ HW.out).mono ?_
  rintro e w5 ⟨rfl, hb⟩
  (try simp only)
  have D5 : Below w.heap.size w w5 := Below.trans (by go_grown) (hb.mono (by have := D4.size; first | omega | (simp; done) | (simp; omega)))
  obtain ⟨k1, k2⟩ := bcl hb
  have c5_0_0 := (k1 (w.heap.size) 0 (by first | omega | (simp; done) | (simp; omega))).trans (by go_cell : _ = some (.int .i64 a))
  have c5_0_1 := (k1 (w.heap.size) 1 (by first | omega | (simp; done) | (simp; omega))).trans (by go_cell : _ = some (.int .i64 b))
  have c5_0_2 := (k1 (w.heap.size) 2 (by first | omega | (simp; done) | (simp; omega))).trans (by go_cell : _ = some (.int .i64 c))
  have c5_0_3 := (k1 (w.heap.size) 3 (by first | omega | (simp; done) | (simp; omega))).trans (by go_cell : _ = some (.int .i64 d))
  have c5_1_0 := (k1 (w.heap.size + 1) 0 (by first | omega | (simp; done) | (simp; omega))).trans (by go_cell : _ = some (.int .i64 s))
  have c5_1_1 := (k1 (w.heap.size + 1) 1 (by first | omega | (simp; done) | (simp; omega))).trans (by go_cell : _ = some (.int .i64 t))
  have c5_1_2 := (k1 (w.heap.size + 1) 2 (by first | omega | (simp; done) | (simp; omega))).trans (by go_cell : _ = some (.int .i64 u))
  have c5_1_3 := (k1 (w.heap.size + 1) 3 (by first | omega | (simp; done) | (simp; omega))).trans (by go_cell : _ = some (.int .i64 v))
  have c5_2_0 := (k1 (w3.heap.size) 0 (by first | omega | (simp; done) | (simp; omega))).trans (by go_cell : _ = some (.int .i64 p))
  have c5_2_1 := (k1 (w3.heap.size) 1 (by first | omega | (simp; done) | (simp; omega))).trans (by go_cell : _ = some (.int .i64 q))
  have c5_2_2 := (k1 (w3.heap.size) 2 (by first | omega | (simp; done) | (simp; omega))).trans (by go_cell : _ = some (.int .i64 p'))
  have c5_2_3 := (k1 (w3.heap.size) 3 (by first | omega | (simp; done) | (simp; omega))).trans (by go_cell : _ = some (.int .i64 q'))
  have c5_3_0 := (k1 (w4.heap.size) 0 (by first | omega | (simp; done) | (simp; omega))).trans (by go_cell : _ = some (.int .i64 p))
  have c5_3_1 := (k1 (w4.heap.size) 1 (by first | omega | (simp; done) | (simp; omega))).trans (by go_cell : _ = some (.int .i64 q))
  have c5_3_2 := (k1 (w4.heap.size) 2 (by first | omega | (simp; done) | (simp; omega))).trans (by go_cell : _ = some (.int .i64 p'))
  have c5_3_3 := (k1 (w4.heap.size) 3 (by first | omega | (simp; done) | (simp; omega))).trans (by go_cell : _ = some (.int .i64 q'))
  have l5_0 : w.heap.size < w5.heap.size := by have hs := hb.size; (try simp at hs); omega
  have l5_1 : w.heap.size + 1 < w5.heap.size := by have hs := hb.size; (try simp at hs); omega
  have l5_2 : w3.heap.size < w5.heap.size := by have hs := hb.size; (try simp at hs); omega
  have l5_3 : w4.heap.size < w5.heap.size := by have hs := hb.size; (try simp at hs); omega
  clear hb k1 k2 D4 c4_0_0 c4_0_1 c4_0_2 c4_0_3 c4_1_0 c4_1_1 c4_1_2 c4_1_3 c4_2_0 c4_2_1 c4_2_2 c4_2_3
  go_wp2_with fail
  refine (rWidth_any a b c d mw we _ HW.out).mono ?_
  rintro e w6 ⟨rfl, hb⟩
  (try simp only)
  have D6 : Below w.heap.size w w6 := Below.trans (by go_grown) (hb.mono (by have := D5.size; first | omega | (simp; done) | (simp; omega)))
  obtain ⟨k1, k2⟩ := bcl hb
  have l6_0 : w.heap.size < w6.heap.size := by have hs := hb.size; (try simp at hs); omega
  have l6_1 : w.heap.size + 1 < w6.heap.size := by have hs := hb.size; (try simp at hs); omega
  have l6_2 : w3.heap.size < w6.heap.size := by have hs := hb.size; (try simp at hs); omega
  have l6_3 : w4.heap.size < w6.heap.size := by have hs := hb.size; (try simp at hs); omega
  clear hb k1 k2 D5 c5_0_0 c5_0_1 c5_0_2 c5_0_3 c5_1_0 c5_1_1 c5_1_2 c5_1_3 c5_2_0 c5_2_1 c5_2_2 c5_2_3 c5_3_0 c5_3_1 c5_3_2 c5_3_3
  go_wp2_with fail
  refine (eawake_any _).mono ?_
  rintro e w7 ⟨rfl, hb⟩
  (try simp only)
  have D7 : Below w.heap.size w w7 := Below.trans (by go_grown) (hb.mono (by have := D6.size; first | omega | (simp; done) | (simp; omega)))
  obtain ⟨k1, k2⟩ := bcl hb
  have l7_0 : w.heap.size < w7.heap.size := by have hs := hb.size; (try simp at hs); omega
  have l7_1 : w.heap.size + 1 < w7.heap.size := by have hs := hb.size; (try simp at hs); omega
  have l7_2 : w3.heap.size < w7.heap.size := by have hs := hb.size; (try simp at hs); omega
  have l7_3 : w4.heap.size < w7.heap.size := by have hs := hb.size; (try simp at hs); omega
  clear hb k1 k2 D6 
  go_wp2_with fail
  go_returns
  exact ⟨rfl, D7⟩
end Go.Proofs.Ytilclpldfoifkaa
