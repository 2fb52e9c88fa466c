import Derived.Test.YtilclpldfoifkaaMi
namespace Encl
theorem two_and (x y : Rc) : okTo (two x y) 2 = true ↔ okR x = true ∧ okR y = true := by rw [two_iff, Bool.and_eq_true]
end Encl
namespace Go.Proofs.Ytilclpldfoifkaa
open Go.RowKit Encl

set_option maxRecDepth 100000 in
set_option maxHeartbeats 4000000 in
theorem rWidth_any (a b c d mw me : Int) (w : World) (hm : widthS ⟨⟨a, b⟩, ⟨c, d⟩⟩ = (mw, me)) :
    Calls Try.prog 27 #[.agg #[.int .i64 a, .int .i64 b, .int .i64 c, .int .i64 d]] w fun e w' => e = .returned (.tuple #[.int .i64 mw, .int .i64 me]) ∧ Below w.heap.size w w' := by
  have HSP := Lib.hid hm
  clear hm
  obtain ⟨bb, hbb⟩ : ∃ bb, okR ⟨⟨a, b⟩, ⟨c, d⟩⟩ = bb := ⟨_, rfl⟩
  have HBB := Lib.hid hbb
  clear hbb
  go_enter Try.func27, Try.ntmps27
  go_wp2_with fail
  refine (rValidRect_any a b c d _).mono ?_
  rw [HBB.out]
  rintro e w1 ⟨rfl, hb⟩
  have D1 : Below w.heap.size w w1 := Below.trans (by go_grown) (hb.mono (by first | omega | (simp; done) | (simp; omega)))
  obtain ⟨k1, k2⟩ := bcl hb
  have x00 := (k1 (w.heap.size) 0 (by first | omega | (simp; done) | (simp; omega))).trans (by go_cell : _ = some (.int .i64 a))
  have x01 := (k1 (w.heap.size) 1 (by first | omega | (simp; done) | (simp; omega))).trans (by go_cell : _ = some (.int .i64 b))
  have x02 := (k1 (w.heap.size) 2 (by first | omega | (simp; done) | (simp; omega))).trans (by go_cell : _ = some (.int .i64 c))
  have x03 := (k1 (w.heap.size) 3 (by first | omega | (simp; done) | (simp; omega))).trans (by go_cell : _ = some (.int .i64 d))
  clear hb k1 k2
  cases bb with
  | false =>
    have HN : Hid (widthS ⟨⟨a, b⟩, ⟨c, d⟩⟩ = (0, 50)) := Lib.hid (by unfold widthS; rw [if_neg (by rw [HBB.out]; decide)])
    obtain ⟨rfl, rfl⟩ := Prod.mk.inj (HN.out.symm.trans HSP.out)
    clear HSP HN
    go_wp2_with fail
    go_returns
    exact ⟨rfl, D1⟩
  | true =>
    have HO := (okR_iff _).1 HBB.out
    simp only [okS_iff] at HO
    obtain ⟨⟨g1, g2, g3⟩, g4, g5, g6⟩ := HO
    by_cases hlt : b - a < d - c
    · have HN : Hid (widthS ⟨⟨a, b⟩, ⟨c, d⟩⟩ = (d - c, 0)) := Lib.hid (by unfold widthS; rw [if_pos HBB.out]; simp only; rw [show max (b - a) (d - c) = d - c by omega])
      obtain ⟨rfl, rfl⟩ := Prod.mk.inj (HN.out.symm.trans HSP.out)
      clear HSP HN
      go_wp2_with fail
      go_returns
      exact ⟨by go_num, D1⟩
    · have HN : Hid (widthS ⟨⟨a, b⟩, ⟨c, d⟩⟩ = (b - a, 0)) := Lib.hid (by unfold widthS; rw [if_pos HBB.out]; simp only; rw [show max (b - a) (d - c) = b - a by omega])
      have hlt' : d - c ≤ b - a := by omega
      obtain ⟨rfl, rfl⟩ := Prod.mk.inj (HN.out.symm.trans HSP.out)
      clear HSP HN
      go_wp2_with fail
      go_returns
      exact ⟨by go_num, D1⟩

set_option maxRecDepth 100000 in
set_option maxHeartbeats 4000000 in
theorem rInside_any (a b c d s t u v me : Int) (mb : Bool) (w : World) (hm : insideS ⟨⟨a, b⟩, ⟨c, d⟩⟩ ⟨⟨s, t⟩, ⟨u, v⟩⟩ = (mb, me)) :
    Calls Try.prog 23 #[.agg #[.int .i64 a, .int .i64 b, .int .i64 c, .int .i64 d], .agg #[.int .i64 s, .int .i64 t, .int .i64 u, .int .i64 v]] w fun e w' => e = .returned (.tuple #[.bool mb, .int .i64 me]) ∧ Below w.heap.size w w' := by
  have HSP := Lib.hid hm
  clear hm
  obtain ⟨b1, hb1⟩ : ∃ bb, okR ⟨⟨a, b⟩, ⟨c, d⟩⟩ = bb := ⟨_, rfl⟩
  obtain ⟨b2, hb2⟩ : ∃ bb, okR ⟨⟨s, t⟩, ⟨u, v⟩⟩ = bb := ⟨_, rfl⟩
  obtain ⟨b3, hb3⟩ : ∃ bb, inS ⟨a, b⟩ ⟨s, t⟩ = bb := ⟨_, rfl⟩
  obtain ⟨b4, hb4⟩ : ∃ bb, inS ⟨c, d⟩ ⟨u, v⟩ = bb := ⟨_, rfl⟩
  have HN : Hid (insideS ⟨⟨a, b⟩, ⟨c, d⟩⟩ ⟨⟨s, t⟩, ⟨u, v⟩⟩ = if (b1 && b2) = true then (b3 && b4, 0) else (false, 50)) := Lib.hid (by unfold insideS; rw [two_iff, hb1, hb2]; simp only; rw [hb3, hb4])
  have HB1 := Lib.hid hb1
  have HB2 := Lib.hid hb2
  have HB3 := Lib.hid hb3
  have HB4 := Lib.hid hb4
  clear hb1 hb2 hb3 hb4
  go_enter Try.func23, Try.ntmps23
  go_wp2_with fail
  refine (rValidRect_any a b c d _).mono ?_
  rw [HB1.out]
  rintro e w1 ⟨rfl, hb⟩
  have D1 : Below w.heap.size w w1 := Below.trans (by go_grown) (hb.mono (by first | omega | (simp; done) | (simp; omega)))
  have s1 : w.heap.size + 1 < w1.heap.size := by have hs := hb.size; (try simp at hs); omega
  obtain ⟨k1, k2⟩ := bcl hb
  have x00 := (k1 (w.heap.size) 0 (by first | omega | (simp; done) | (simp; omega))).trans (by go_cell : _ = some (.int .i64 a))
  have x01 := (k1 (w.heap.size) 1 (by first | omega | (simp; done) | (simp; omega))).trans (by go_cell : _ = some (.int .i64 b))
  have x02 := (k1 (w.heap.size) 2 (by first | omega | (simp; done) | (simp; omega))).trans (by go_cell : _ = some (.int .i64 c))
  have x03 := (k1 (w.heap.size) 3 (by first | omega | (simp; done) | (simp; omega))).trans (by go_cell : _ = some (.int .i64 d))
  have x10 := (k1 (w.heap.size + 1) 0 (by first | omega | (simp; done) | (simp; omega))).trans (by go_cell : _ = some (.int .i64 s))
  have x11 := (k1 (w.heap.size + 1) 1 (by first | omega | (simp; done) | (simp; omega))).trans (by go_cell : _ = some (.int .i64 t))
  have x12 := (k1 (w.heap.size + 1) 2 (by first | omega | (simp; done) | (simp; omega))).trans (by go_cell : _ = some (.int .i64 u))
  have x13 := (k1 (w.heap.size + 1) 3 (by first | omega | (simp; done) | (simp; omega))).trans (by go_cell : _ = some (.int .i64 v))
  clear hb k1 k2
  cases b1 with
  | false =>
    obtain ⟨rfl, rfl⟩ := Prod.mk.inj ((HN.out.trans (if_neg (by simp))).symm.trans HSP.out)
    clear HSP HN
    go_wp2_with fail
    go_returns
    exact ⟨rfl, D1⟩
  | true =>
    go_wp2_with fail
    refine (rValidRect_any s t u v _).mono ?_
    rw [HB2.out]
    rintro e w2 ⟨rfl, hb⟩
    have D2 := D1.trans (hb.mono D1.size)
    have s2 : w.heap.size + 1 < w2.heap.size := by have hs := hb.size; omega
    obtain ⟨k1, k2⟩ := bcl hb
    have y00 := (k1 (w.heap.size) 0 (by omega)).trans x00
    have y01 := (k1 (w.heap.size) 1 (by omega)).trans x01
    have y02 := (k1 (w.heap.size) 2 (by omega)).trans x02
    have y03 := (k1 (w.heap.size) 3 (by omega)).trans x03
    have y10 := (k1 (w.heap.size + 1) 0 (by omega)).trans x10
    have y11 := (k1 (w.heap.size + 1) 1 (by omega)).trans x11
    have y12 := (k1 (w.heap.size + 1) 2 (by omega)).trans x12
    have y13 := (k1 (w.heap.size + 1) 3 (by omega)).trans x13
    clear hb k1 k2 D1 x00 x01 x02 x03 x10 x11 x12 x13
    cases b2 with
    | false =>
      obtain ⟨rfl, rfl⟩ := Prod.mk.inj ((HN.out.trans (if_neg (by simp))).symm.trans HSP.out)
      clear HSP HN
      go_wp2_with fail
      go_returns
      exact ⟨rfl, D2⟩
    | true =>
      obtain ⟨rfl, rfl⟩ := Prod.mk.inj ((HN.out.trans (if_pos rfl)).symm.trans HSP.out)
      clear HSP HN
      go_wp2_with fail
      refine (rIn_any a b s t _).mono ?_
      rw [HB3.out]
      rintro e w3 ⟨rfl, hb⟩
      have D3 := D2.trans (hb.mono D2.size)
      obtain ⟨k1, k2⟩ := bcl hb
      have z02 := (k1 (w.heap.size) 2 (by omega)).trans y02
      have z03 := (k1 (w.heap.size) 3 (by omega)).trans y03
      have z12 := (k1 (w.heap.size + 1) 2 (by omega)).trans y12
      have z13 := (k1 (w.heap.size + 1) 3 (by omega)).trans y13
      clear hb k1 k2 D2 y00 y01 y02 y03 y10 y11 y12 y13
      cases b3 with
      | false =>
        go_wp2_with fail
        go_returns
        exact ⟨rfl, D3⟩
      | true =>
        go_wp2_with fail
        refine (rIn_any c d u v _).mono ?_
        rw [HB4.out]
        rintro e w4 ⟨rfl, hb⟩
        have D4 := D3.trans (hb.mono D3.size)
        clear hb
        go_wp2_with fail
        go_returns
        exact ⟨by cases b4 <;> rfl, D4⟩
end Go.Proofs.Ytilclpldfoifkaa
