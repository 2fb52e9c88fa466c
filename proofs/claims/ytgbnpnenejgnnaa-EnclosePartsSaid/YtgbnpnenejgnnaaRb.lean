import Derived.Test.YtgbnpnenejgnnaaRa
namespace Go.Proofs.Ytgbnpnenejgnnaa
open Go.RowKit Encl

set_option maxRecDepth 100000 in
set_option maxHeartbeats 4000000 in
theorem rAdd_any (a b c d s t u v : Int) (w : World) :
    Calls Try.prog 19 #[.agg #[.int .i64 a, .int .i64 b, .int .i64 c, .int .i64 d], .agg #[.int .i64 s, .int .i64 t, .int .i64 u, .int .i64 v]] w fun e w' => e = OutR (onR2 addR ⟨⟨a, b⟩, ⟨c, d⟩⟩ ⟨⟨s, t⟩, ⟨u, v⟩⟩) ∧ Below w.heap.size w w' := by
  obtain ⟨SP, hsp⟩ : ∃ SP, onR2 addR ⟨⟨a, b⟩, ⟨c, d⟩⟩ ⟨⟨s, t⟩, ⟨u, v⟩⟩ = SP := ⟨_, rfl⟩
  have HSP := Lib.hid hsp
  rw [hsp]
  clear hsp
  obtain ⟨bb, hbb⟩ : ∃ bb, okTo (two ⟨⟨a, b⟩, ⟨c, d⟩⟩ ⟨⟨s, t⟩, ⟨u, v⟩⟩) 2 = bb := ⟨_, rfl⟩
  have HBB := Lib.hid hbb
  clear hbb
  go_enter Try.func19, Try.ntmps19
  go_wp2_with fail
  refine (rBoth_any a b c d s t u v _).mono ?_
  rw [HBB.out]
  rintro e w1 ⟨rfl, hb⟩
  have D1 : Below w.heap.size w w1 := Below.trans (by go_grown) (hb.mono (by first | omega | (simp; done) | (simp; omega)))
  have s1 : w.heap.size + 1 + 1 < w1.heap.size := by have hs := hb.size; (try simp at hs); omega
  have s1a : w.heap.size < w1.heap.size := by omega
  have s1b : w.heap.size + 1 < w1.heap.size := by omega
  obtain ⟨k1, k2⟩ := bcl hb
  have x00 := (k1 (w.heap.size) 0 (by first | omega | (simp; done) | (simp; omega))).trans (by go_cell : _ = some (.int .i64 a))
  have x01 := (k1 (w.heap.size) 1 (by first | omega | (simp; done) | (simp; omega))).trans (by go_cell : _ = some (.int .i64 b))
  have x02 := (k1 (w.heap.size) 2 (by first | omega | (simp; done) | (simp; omega))).trans (by go_cell : _ = some (.int .i64 c))
  have x03 := (k1 (w.heap.size) 3 (by first | omega | (simp; done) | (simp; omega))).trans (by go_cell : _ = some (.int .i64 d))
  have x10 := (k1 (w.heap.size + 1) 0 (by first | omega | (simp; done) | (simp; omega))).trans (by go_cell : _ = some (.int .i64 s))
  have x11 := (k1 (w.heap.size + 1) 1 (by first | omega | (simp; done) | (simp; omega))).trans (by go_cell : _ = some (.int .i64 t))
  have x12 := (k1 (w.heap.size + 1) 2 (by first | omega | (simp; done) | (simp; omega))).trans (by go_cell : _ = some (.int .i64 u))
  have x13 := (k1 (w.heap.size + 1) 3 (by first | omega | (simp; done) | (simp; omega))).trans (by go_cell : _ = some (.int .i64 v))
  have d0 := (k1 (w.heap.size + 1 + 1) 0 (by first | omega | (simp; done) | (simp; omega))).trans (by go_cell : _ = some (.int .i64 0))
  have f0 := (k2 (w.heap.size + 1 + 1) 0 (by first | omega | (simp; done) | (simp; omega))).trans (by go_cell : _ = false)
  have d1 := (k1 (w.heap.size + 1 + 1) 1 (by first | omega | (simp; done) | (simp; omega))).trans (by go_cell : _ = some (.int .i64 0))
  have f1 := (k2 (w.heap.size + 1 + 1) 1 (by first | omega | (simp; done) | (simp; omega))).trans (by go_cell : _ = false)
  have d2 := (k1 (w.heap.size + 1 + 1) 2 (by first | omega | (simp; done) | (simp; omega))).trans (by go_cell : _ = some (.int .i64 0))
  have f2 := (k2 (w.heap.size + 1 + 1) 2 (by first | omega | (simp; done) | (simp; omega))).trans (by go_cell : _ = false)
  have d3 := (k1 (w.heap.size + 1 + 1) 3 (by first | omega | (simp; done) | (simp; omega))).trans (by go_cell : _ = some (.int .i64 0))
  have f3 := (k2 (w.heap.size + 1 + 1) 3 (by first | omega | (simp; done) | (simp; omega))).trans (by go_cell : _ = false)
  clear hb k1 k2
  cases bb with
  | false =>
    have HN : Hid (SP = .bad 50) := Lib.hid (by rw [← HSP.out]; unfold onR2; rw [if_neg (by rw [HBB.out]; decide)])
    go_wp2_with fail
    refine bodyPost_ret (v := .tuple #[.agg #[.int .i64 0, .int .i64 0, .int .i64 0, .int .i64 0], .int .i64 50]) (by simp [results, Try.results19, go_sem, *]) rfl ⟨by rw [HN.out]; rfl, by go_grown⟩
  | true =>
    have HO := Lib.hid (two_ok HBB.out)
    obtain ⟨rr, hrr⟩ : ∃ rr, addW 0 ⟨⟨a, b⟩, ⟨c, d⟩⟩ ⟨⟨s, t⟩, ⟨u, v⟩⟩ = rr := ⟨_, rfl⟩
    have HR := Lib.hid hrr
    obtain ⟨⟨⟨p, q⟩, ⟨p', q'⟩⟩, ee⟩ := rr
    have HN : Hid (fin ⟨⟨p, q⟩, ⟨p', q'⟩⟩ ee = SP) := Lib.hid (by
      have h1 := fin_add ⟨⟨a, b⟩, ⟨c, d⟩⟩ ⟨⟨s, t⟩, ⟨u, v⟩⟩
      rw [hrr] at h1
      rw [← HSP.out]; unfold onR2; rw [if_pos HBB.out]; exact h1)
    clear hrr
    go_wp2_with fail
    have hb0 : Below w1.heap.size w1 (w1.alloc (Obj.cells #[.int .i64 0] 82)) := (Below.refl _ _).alloc (Nat.le_refl _) _
    have q0 : (w1.alloc (Obj.cells #[.int .i64 0] 82)).cell? ⟨w1.heap.size, 0, none⟩ = some (.int .i64 0) := by go_cell
    have q1 : (w1.alloc (Obj.cells #[.int .i64 0] 82)).frozen? ⟨w1.heap.size, 0, none⟩ = false := by go_cell
    have qz : w1.heap.size < (w1.alloc (Obj.cells #[.int .i64 0] 82)).heap.size := by simp
    have e0 := fun b o (h : b < w1.heap.size) => hb0.cell (p := ⟨b, o, none⟩) h
    have e1 := fun b o (h : b < w1.heap.size) => hb0.frozen (p := ⟨b, o, none⟩) h
    have D2 := D1.trans (hb0.mono D1.size)
    have y00 := (e0 (w.heap.size) 0 (by omega)).trans x00
    have y01 := (e0 (w.heap.size) 1 (by omega)).trans x01
    have y02 := (e0 (w.heap.size) 2 (by omega)).trans x02
    have y03 := (e0 (w.heap.size) 3 (by omega)).trans x03
    have y10 := (e0 (w.heap.size + 1) 0 (by omega)).trans x10
    have y11 := (e0 (w.heap.size + 1) 1 (by omega)).trans x11
    have y12 := (e0 (w.heap.size + 1) 2 (by omega)).trans x12
    have y13 := (e0 (w.heap.size + 1) 3 (by omega)).trans x13
    have yd0 := (e0 (w.heap.size + 1 + 1) 0 (by omega)).trans d0
    have yf0 := (e1 (w.heap.size + 1 + 1) 0 (by omega)).trans f0
    have yd1 := (e0 (w.heap.size + 1 + 1) 1 (by omega)).trans d1
    have yf1 := (e1 (w.heap.size + 1 + 1) 1 (by omega)).trans f1
    have yd2 := (e0 (w.heap.size + 1 + 1) 2 (by omega)).trans d2
    have yf2 := (e1 (w.heap.size + 1 + 1) 2 (by omega)).trans f2
    have yd3 := (e0 (w.heap.size + 1 + 1) 3 (by omega)).trans d3
    have yf3 := (e1 (w.heap.size + 1 + 1) 3 (by omega)).trans f3
    clear e0 e1 hb0 D1 x00 x01 x02 x03 x10 x11 x12 x13 d0 f0 d1 f1 d2 f2 d3 f3
    generalize (w1.alloc (Obj.cells #[.int .i64 0] 82)) = W at *
    obtain ⟨G, hG⟩ : ∃ G, w1.heap.size = G := ⟨_, rfl⟩
    rw [hG] at s1 s1a s1b q0 q1 qz ⊢
    clear hG
    refine (rAddW_any a b c d s t u v 0 G _ HO.out.1 HO.out.2.1 HO.out.2.2.1 HO.out.2.2.2 q0 q1).mono ?_
    rw [HR.out]
    rintro e w3 ⟨he, hb⟩
    obtain rfl : e = .returned (.agg #[.int .i64 p, .int .i64 q, .int .i64 p', .int .i64 q']) := he
    have D3 := D2.trans (hb.below (by omega) D2.size)
    have s3 : G < w3.heap.size := by have := hb.size; omega
    have s3' : w.heap.size + 1 + 1 < w3.heap.size := by omega
    obtain ⟨k1, k2⟩ := hb.cells
    have g0 := hb.cell
    have zd0 := (k1 (w.heap.size + 1 + 1) 0 (by omega) (by omega)).trans yd0
    have zf0 := (k2 (w.heap.size + 1 + 1) 0 (by omega) (by omega)).trans yf0
    have zd1 := (k1 (w.heap.size + 1 + 1) 1 (by omega) (by omega)).trans yd1
    have zf1 := (k2 (w.heap.size + 1 + 1) 1 (by omega) (by omega)).trans yf1
    have zd2 := (k1 (w.heap.size + 1 + 1) 2 (by omega) (by omega)).trans yd2
    have zf2 := (k2 (w.heap.size + 1 + 1) 2 (by omega) (by omega)).trans yf2
    have zd3 := (k1 (w.heap.size + 1 + 1) 3 (by omega) (by omega)).trans yd3
    have zf3 := (k2 (w.heap.size + 1 + 1) 3 (by omega) (by omega)).trans yf3
    clear hb k1 k2 D2 q0 q1 qz y00 y01 y02 y03 y10 y11 y12 y13 yd0 yf0 yd1 yf1 yd2 yf2 yd3 yf3
    go_wp2_with fail
    refine (rDone_any p q p' q' ee G _ (by go_cell)).mono ?_
    rw [HN.out]
    rintro e w4 ⟨rfl, hb⟩
    have D4 : Below w.heap.size w w4 := Below.trans (by go_grown) (hb.mono (by have := D3.size; simp; omega))
    have s4 : w.heap.size + 1 + 1 < w4.heap.size := by have hs := hb.size; (try simp at hs); omega
    have hb5 := (bal (Below.refl _ w3) _).trans (hb.mono (by simp))
    have vd0 := (hb5.cell (p := ⟨w.heap.size + 1 + 1, 0, none⟩) s3').trans zd0
    have vf0 := (hb5.frozen (p := ⟨w.heap.size + 1 + 1, 0, none⟩) s3').trans zf0
    have vd1 := (hb5.cell (p := ⟨w.heap.size + 1 + 1, 1, none⟩) s3').trans zd1
    have vf1 := (hb5.frozen (p := ⟨w.heap.size + 1 + 1, 1, none⟩) s3').trans zf1
    have vd2 := (hb5.cell (p := ⟨w.heap.size + 1 + 1, 2, none⟩) s3').trans zd2
    have vf2 := (hb5.frozen (p := ⟨w.heap.size + 1 + 1, 2, none⟩) s3').trans zf2
    have vd3 := (hb5.cell (p := ⟨w.heap.size + 1 + 1, 3, none⟩) s3').trans zd3
    have vf3 := (hb5.frozen (p := ⟨w.heap.size + 1 + 1, 3, none⟩) s3').trans zf3
    clear hb hb5 D3 g0 zd0 zf0 zd1 zf1 zd2 zf2 zd3 zf3
    rcases SP with ⟨⟨h1, h2⟩, ⟨h3, h4⟩⟩ | k
    · unfold OutR
      (try simp only)
      go_wp2_with fail
      refine bodyPost_ret (v := .tuple #[.agg #[.int .i64 h1, .int .i64 h2, .int .i64 h3, .int .i64 h4], .int .i64 0]) (by simp [results, Try.results19, go_sem, *]) rfl ⟨rfl, by go_grown⟩
    · unfold OutR
      (try simp only)
      go_wp2_with fail
      refine bodyPost_ret (v := .tuple #[.agg #[.int .i64 0, .int .i64 0, .int .i64 0, .int .i64 0], .int .i64 k]) (by simp [results, Try.results19, go_sem, *]) rfl ⟨rfl, by go_grown⟩

set_option maxRecDepth 100000 in
set_option maxHeartbeats 4000000 in
theorem rSub_any (a b c d s t u v : Int) (w : World) :
    Calls Try.prog 21 #[.agg #[.int .i64 a, .int .i64 b, .int .i64 c, .int .i64 d], .agg #[.int .i64 s, .int .i64 t, .int .i64 u, .int .i64 v]] w fun e w' => e = OutR (onR2 subR ⟨⟨a, b⟩, ⟨c, d⟩⟩ ⟨⟨s, t⟩, ⟨u, v⟩⟩) ∧ Below w.heap.size w w' := by
  obtain ⟨SP, hsp⟩ : ∃ SP, onR2 subR ⟨⟨a, b⟩, ⟨c, d⟩⟩ ⟨⟨s, t⟩, ⟨u, v⟩⟩ = SP := ⟨_, rfl⟩
  have HSP := Lib.hid hsp
  rw [hsp]
  clear hsp
  obtain ⟨bb, hbb⟩ : ∃ bb, okTo (two ⟨⟨a, b⟩, ⟨c, d⟩⟩ ⟨⟨s, t⟩, ⟨u, v⟩⟩) 2 = bb := ⟨_, rfl⟩
  have HBB := Lib.hid hbb
  clear hbb
  go_enter Try.func21, Try.ntmps21
  go_wp2_with fail
  refine (rBoth_any a b c d s t u v _).mono ?_
  rw [HBB.out]
  rintro e w1 ⟨rfl, hb⟩
  have D1 : Below w.heap.size w w1 := Below.trans (by go_grown) (hb.mono (by first | omega | (simp; done) | (simp; omega)))
  have s1 : w.heap.size + 1 + 1 < w1.heap.size := by have hs := hb.size; (try simp at hs); omega
  have s1a : w.heap.size < w1.heap.size := by omega
  have s1b : w.heap.size + 1 < w1.heap.size := by omega
  obtain ⟨k1, k2⟩ := bcl hb
  have x00 := (k1 (w.heap.size) 0 (by first | omega | (simp; done) | (simp; omega))).trans (by go_cell : _ = some (.int .i64 a))
  have x01 := (k1 (w.heap.size) 1 (by first | omega | (simp; done) | (simp; omega))).trans (by go_cell : _ = some (.int .i64 b))
  have x02 := (k1 (w.heap.size) 2 (by first | omega | (simp; done) | (simp; omega))).trans (by go_cell : _ = some (.int .i64 c))
  have x03 := (k1 (w.heap.size) 3 (by first | omega | (simp; done) | (simp; omega))).trans (by go_cell : _ = some (.int .i64 d))
  have x10 := (k1 (w.heap.size + 1) 0 (by first | omega | (simp; done) | (simp; omega))).trans (by go_cell : _ = some (.int .i64 s))
  have x11 := (k1 (w.heap.size + 1) 1 (by first | omega | (simp; done) | (simp; omega))).trans (by go_cell : _ = some (.int .i64 t))
  have x12 := (k1 (w.heap.size + 1) 2 (by first | omega | (simp; done) | (simp; omega))).trans (by go_cell : _ = some (.int .i64 u))
  have x13 := (k1 (w.heap.size + 1) 3 (by first | omega | (simp; done) | (simp; omega))).trans (by go_cell : _ = some (.int .i64 v))
  have d0 := (k1 (w.heap.size + 1 + 1) 0 (by first | omega | (simp; done) | (simp; omega))).trans (by go_cell : _ = some (.int .i64 0))
  have f0 := (k2 (w.heap.size + 1 + 1) 0 (by first | omega | (simp; done) | (simp; omega))).trans (by go_cell : _ = false)
  have d1 := (k1 (w.heap.size + 1 + 1) 1 (by first | omega | (simp; done) | (simp; omega))).trans (by go_cell : _ = some (.int .i64 0))
  have f1 := (k2 (w.heap.size + 1 + 1) 1 (by first | omega | (simp; done) | (simp; omega))).trans (by go_cell : _ = false)
  have d2 := (k1 (w.heap.size + 1 + 1) 2 (by first | omega | (simp; done) | (simp; omega))).trans (by go_cell : _ = some (.int .i64 0))
  have f2 := (k2 (w.heap.size + 1 + 1) 2 (by first | omega | (simp; done) | (simp; omega))).trans (by go_cell : _ = false)
  have d3 := (k1 (w.heap.size + 1 + 1) 3 (by first | omega | (simp; done) | (simp; omega))).trans (by go_cell : _ = some (.int .i64 0))
  have f3 := (k2 (w.heap.size + 1 + 1) 3 (by first | omega | (simp; done) | (simp; omega))).trans (by go_cell : _ = false)
  clear hb k1 k2
  cases bb with
  | false =>
    have HN : Hid (SP = .bad 50) := Lib.hid (by rw [← HSP.out]; unfold onR2; rw [if_neg (by rw [HBB.out]; decide)])
    go_wp2_with fail
    refine bodyPost_ret (v := .tuple #[.agg #[.int .i64 0, .int .i64 0, .int .i64 0, .int .i64 0], .int .i64 50]) (by simp [results, Try.results21, go_sem, *]) rfl ⟨by rw [HN.out]; rfl, by go_grown⟩
  | true =>
    have HO := Lib.hid (two_ok HBB.out)
    obtain ⟨rr, hrr⟩ : ∃ rr, subW 0 ⟨⟨a, b⟩, ⟨c, d⟩⟩ ⟨⟨s, t⟩, ⟨u, v⟩⟩ = rr := ⟨_, rfl⟩
    have HR := Lib.hid hrr
    obtain ⟨⟨⟨p, q⟩, ⟨p', q'⟩⟩, ee⟩ := rr
    have HN : Hid (fin ⟨⟨p, q⟩, ⟨p', q'⟩⟩ ee = SP) := Lib.hid (by
      have h1 := fin_sub ⟨⟨a, b⟩, ⟨c, d⟩⟩ ⟨⟨s, t⟩, ⟨u, v⟩⟩
      rw [hrr] at h1
      rw [← HSP.out]; unfold onR2; rw [if_pos HBB.out]; exact h1)
    clear hrr
    go_wp2_with fail
    have hb0 : Below w1.heap.size w1 (w1.alloc (Obj.cells #[.int .i64 0] 82)) := (Below.refl _ _).alloc (Nat.le_refl _) _
    have q0 : (w1.alloc (Obj.cells #[.int .i64 0] 82)).cell? ⟨w1.heap.size, 0, none⟩ = some (.int .i64 0) := by go_cell
    have q1 : (w1.alloc (Obj.cells #[.int .i64 0] 82)).frozen? ⟨w1.heap.size, 0, none⟩ = false := by go_cell
    have qz : w1.heap.size < (w1.alloc (Obj.cells #[.int .i64 0] 82)).heap.size := by simp
    have e0 := fun b o (h : b < w1.heap.size) => hb0.cell (p := ⟨b, o, none⟩) h
    have e1 := fun b o (h : b < w1.heap.size) => hb0.frozen (p := ⟨b, o, none⟩) h
    have D2 := D1.trans (hb0.mono D1.size)
    have y00 := (e0 (w.heap.size) 0 (by omega)).trans x00
    have y01 := (e0 (w.heap.size) 1 (by omega)).trans x01
    have y02 := (e0 (w.heap.size) 2 (by omega)).trans x02
    have y03 := (e0 (w.heap.size) 3 (by omega)).trans x03
    have y10 := (e0 (w.heap.size + 1) 0 (by omega)).trans x10
    have y11 := (e0 (w.heap.size + 1) 1 (by omega)).trans x11
    have y12 := (e0 (w.heap.size + 1) 2 (by omega)).trans x12
    have y13 := (e0 (w.heap.size + 1) 3 (by omega)).trans x13
    have yd0 := (e0 (w.heap.size + 1 + 1) 0 (by omega)).trans d0
    have yf0 := (e1 (w.heap.size + 1 + 1) 0 (by omega)).trans f0
    have yd1 := (e0 (w.heap.size + 1 + 1) 1 (by omega)).trans d1
    have yf1 := (e1 (w.heap.size + 1 + 1) 1 (by omega)).trans f1
    have yd2 := (e0 (w.heap.size + 1 + 1) 2 (by omega)).trans d2
    have yf2 := (e1 (w.heap.size + 1 + 1) 2 (by omega)).trans f2
    have yd3 := (e0 (w.heap.size + 1 + 1) 3 (by omega)).trans d3
    have yf3 := (e1 (w.heap.size + 1 + 1) 3 (by omega)).trans f3
    clear e0 e1 hb0 D1 x00 x01 x02 x03 x10 x11 x12 x13 d0 f0 d1 f1 d2 f2 d3 f3
    generalize (w1.alloc (Obj.cells #[.int .i64 0] 82)) = W at *
    obtain ⟨G, hG⟩ : ∃ G, w1.heap.size = G := ⟨_, rfl⟩
    rw [hG] at s1 s1a s1b q0 q1 qz ⊢
    clear hG
    refine (rSubW_any a b c d s t u v 0 G _ HO.out.1 HO.out.2.1 HO.out.2.2.1 HO.out.2.2.2 q0 q1).mono ?_
    rw [HR.out]
    rintro e w3 ⟨he, hb⟩
    obtain rfl : e = .returned (.agg #[.int .i64 p, .int .i64 q, .int .i64 p', .int .i64 q']) := he
    have D3 := D2.trans (hb.below (by omega) D2.size)
    have s3 : G < w3.heap.size := by have := hb.size; omega
    have s3' : w.heap.size + 1 + 1 < w3.heap.size := by omega
    obtain ⟨k1, k2⟩ := hb.cells
    have g0 := hb.cell
    have zd0 := (k1 (w.heap.size + 1 + 1) 0 (by omega) (by omega)).trans yd0
    have zf0 := (k2 (w.heap.size + 1 + 1) 0 (by omega) (by omega)).trans yf0
    have zd1 := (k1 (w.heap.size + 1 + 1) 1 (by omega) (by omega)).trans yd1
    have zf1 := (k2 (w.heap.size + 1 + 1) 1 (by omega) (by omega)).trans yf1
    have zd2 := (k1 (w.heap.size + 1 + 1) 2 (by omega) (by omega)).trans yd2
    have zf2 := (k2 (w.heap.size + 1 + 1) 2 (by omega) (by omega)).trans yf2
    have zd3 := (k1 (w.heap.size + 1 + 1) 3 (by omega) (by omega)).trans yd3
    have zf3 := (k2 (w.heap.size + 1 + 1) 3 (by omega) (by omega)).trans yf3
    clear hb k1 k2 D2 q0 q1 qz y00 y01 y02 y03 y10 y11 y12 y13 yd0 yf0 yd1 yf1 yd2 yf2 yd3 yf3
    go_wp2_with fail
    refine (rDone_any p q p' q' ee G _ (by go_cell)).mono ?_
    rw [HN.out]
    rintro e w4 ⟨rfl, hb⟩
    have D4 : Below w.heap.size w w4 := Below.trans (by go_grown) (hb.mono (by have := D3.size; simp; omega))
    have s4 : w.heap.size + 1 + 1 < w4.heap.size := by have hs := hb.size; (try simp at hs); omega
    have hb5 := (bal (Below.refl _ w3) _).trans (hb.mono (by simp))
    have vd0 := (hb5.cell (p := ⟨w.heap.size + 1 + 1, 0, none⟩) s3').trans zd0
    have vf0 := (hb5.frozen (p := ⟨w.heap.size + 1 + 1, 0, none⟩) s3').trans zf0
    have vd1 := (hb5.cell (p := ⟨w.heap.size + 1 + 1, 1, none⟩) s3').trans zd1
    have vf1 := (hb5.frozen (p := ⟨w.heap.size + 1 + 1, 1, none⟩) s3').trans zf1
    have vd2 := (hb5.cell (p := ⟨w.heap.size + 1 + 1, 2, none⟩) s3').trans zd2
    have vf2 := (hb5.frozen (p := ⟨w.heap.size + 1 + 1, 2, none⟩) s3').trans zf2
    have vd3 := (hb5.cell (p := ⟨w.heap.size + 1 + 1, 3, none⟩) s3').trans zd3
    have vf3 := (hb5.frozen (p := ⟨w.heap.size + 1 + 1, 3, none⟩) s3').trans zf3
    clear hb hb5 D3 g0 zd0 zf0 zd1 zf1 zd2 zf2 zd3 zf3
    rcases SP with ⟨⟨h1, h2⟩, ⟨h3, h4⟩⟩ | k
    · unfold OutR
      (try simp only)
      go_wp2_with fail
      refine bodyPost_ret (v := .tuple #[.agg #[.int .i64 h1, .int .i64 h2, .int .i64 h3, .int .i64 h4], .int .i64 0]) (by simp [results, Try.results21, go_sem, *]) rfl ⟨rfl, by go_grown⟩
    · unfold OutR
      (try simp only)
      go_wp2_with fail
      refine bodyPost_ret (v := .tuple #[.agg #[.int .i64 0, .int .i64 0, .int .i64 0, .int .i64 0], .int .i64 k]) (by simp [results, Try.results21, go_sem, *]) rfl ⟨rfl, by go_grown⟩
end Go.Proofs.Ytgbnpnenejgnnaa
