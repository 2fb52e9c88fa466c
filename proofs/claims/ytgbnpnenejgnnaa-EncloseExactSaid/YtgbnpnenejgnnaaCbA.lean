import Derived.Test.YtgbnpnenejgnnaaMe
import Derived.Test.YtgbnpnenejgnnaaEj
namespace Go.Proofs.Ytgbnpnenejgnnaa
open Go.RowKit Encl

set_option maxRecDepth 100000 in
set_option maxHeartbeats 4000000 in
theorem combAddC_any (a b c d s t u v : Int) (gf gx gy : Nat) (w : World) (h1 : okS ⟨a, b⟩ = true) (h2 : okS ⟨c, d⟩ = true) (h3 : okS ⟨s, t⟩ = true) (h4 : okS ⟨u, v⟩ = true)
    (cf : w.cell? ⟨gf, 0, none⟩ = some (.func (Fn.func 63) #[] #[]))
    (cx : w.cell? ⟨gx, 0, none⟩ = some (.int .i64 a) ∧ w.cell? ⟨gx, 1, none⟩ = some (.int .i64 b) ∧ w.cell? ⟨gx, 2, none⟩ = some (.int .i64 c) ∧ w.cell? ⟨gx, 3, none⟩ = some (.int .i64 d))
    (cy : w.cell? ⟨gy, 0, none⟩ = some (.int .i64 s) ∧ w.cell? ⟨gy, 1, none⟩ = some (.int .i64 t) ∧ w.cell? ⟨gy, 2, none⟩ = some (.int .i64 u) ∧ w.cell? ⟨gy, 3, none⟩ = some (.int .i64 v)) :
    Calls Try.prog 116 #[.pointer (some ⟨gf, 0, none⟩), .pointer (some ⟨gx, 0, none⟩), .pointer (some ⟨gy, 0, none⟩)] w fun e w' => IsR e (addR ⟨⟨a, b⟩, ⟨c, d⟩⟩ ⟨⟨s, t⟩, ⟨u, v⟩⟩) ∧ Below w.heap.size w w' := by
  obtain ⟨cx0, cx1, cx2, cx3⟩ := cx
  obtain ⟨cy0, cy1, cy2, cy3⟩ := cy
  have hgf := World.block_lt_of_cell? w _ cf
  have hgx := World.block_lt_of_cell? w _ cx0
  have hgy := World.block_lt_of_cell? w _ cy0
  simp only at hgf hgx hgy
  have H1 := Lib.hid h1
  have H2 := Lib.hid h2
  have H3 := Lib.hid h3
  have H4 := Lib.hid h4
  clear h1 h2 h3 h4
  obtain ⟨SP, hsp⟩ : ∃ SP, addR ⟨⟨a, b⟩, ⟨c, d⟩⟩ ⟨⟨s, t⟩, ⟨u, v⟩⟩ = SP := ⟨_, rfl⟩
  have HSP := Lib.hid hsp
  rw [hsp]
  clear hsp
  go_enter Try.func116, Try.ntmps116
  go_wp2_with fail
  refine (addRect_any a b c d s t u v _ H1.out H2.out H3.out H4.out).mono ?_
  rintro e w1 ⟨he, hb⟩
  rw [HSP.out] at he
  have HE := Lib.hid he
  have D1 : Below w.heap.size w w1 := Below.trans (by go_grown) (hb.mono (by first | omega | (simp; done) | (simp; omega)))
  have s1 : w.heap.size < w1.heap.size := by have hs := hb.size; (try simp at hs); omega
  obtain ⟨k1, k2⟩ := bcl hb
  have d0 := (k1 w.heap.size 0 (by simp)).trans (by go_cell : _ = some (.int .i64 0))
  have f0 := (k2 w.heap.size 0 (by simp)).trans (by go_cell : _ = false)
  have d1 := (k1 w.heap.size 1 (by simp)).trans (by go_cell : _ = some (.int .i64 0))
  have f1 := (k2 w.heap.size 1 (by simp)).trans (by go_cell : _ = false)
  have d2 := (k1 w.heap.size 2 (by simp)).trans (by go_cell : _ = some (.int .i64 0))
  have f2 := (k2 w.heap.size 2 (by simp)).trans (by go_cell : _ = false)
  have d3 := (k1 w.heap.size 3 (by simp)).trans (by go_cell : _ = some (.int .i64 0))
  have f3 := (k2 w.heap.size 3 (by simp)).trans (by go_cell : _ = false)
  clear hb k1 k2 he cf cx0 cx1 cx2 cx3 cy0 cy1 cy2 cy3
  rcases SP with ⟨⟨p, q⟩, ⟨p', q'⟩⟩ | k
  · obtain rfl : e = .returned (.agg #[.int .i64 p, .int .i64 q, .int .i64 p', .int .i64 q']) := HE.out
    go_wp2_with fail
    refine bodyPost_ret (v := .agg #[.int .i64 p, .int .i64 q, .int .i64 p', .int .i64 q']) (by simp [results, Try.results116, go_sem, *]) rfl ⟨rfl, by go_grown⟩
  · obtain rfl : e = .panicked [{ v := .iface 26 (.int .i64 k), recovered := false }] := HE.out
    go_wp2_with fail
    exact ⟨rfl, rfl, by go_grown⟩

set_option maxRecDepth 100000 in
set_option maxHeartbeats 4000000 in
theorem combAdd_any (a b c d s t u v : Int) (w : World) :
    Calls Try.prog 62 #[.agg #[.int .i64 a, .int .i64 b, .int .i64 c, .int .i64 d], .agg #[.int .i64 s, .int .i64 t, .int .i64 u, .int .i64 v], .func (Fn.func 63) #[] #[]] w fun e w' => e = OutR (onR2 addR ⟨⟨a, b⟩, ⟨c, d⟩⟩ ⟨⟨s, t⟩, ⟨u, v⟩⟩) ∧ Below w.heap.size w w' := by
  have hmf : ∀ (fn : Fn) (first cap : Array Value) (w : World), (Instr.makeFunc fn first cap).run Try.prog w = .ok (.func fn first cap) w := fun _ _ _ _ => rfl
  obtain ⟨SP, hsp⟩ : ∃ SP, onR2 addR ⟨⟨a, b⟩, ⟨c, d⟩⟩ ⟨⟨s, t⟩, ⟨u, v⟩⟩ = SP := ⟨_, rfl⟩
  have HSP := Lib.hid hsp
  rw [hsp]
  clear hsp
  obtain ⟨bb, hbb⟩ : ∃ bb, okTo (two ⟨⟨a, b⟩, ⟨c, d⟩⟩ ⟨⟨s, t⟩, ⟨u, v⟩⟩) 2 = bb := ⟨_, rfl⟩
  have HBB := Lib.hid hbb
  clear hbb
  go_enter Try.func62, Try.ntmps62
  go_wp2_with fail
  refine (valid_any _ 2 2 (two ⟨⟨a, b⟩, ⟨c, d⟩⟩ ⟨⟨s, t⟩, ⟨u, v⟩⟩) _ (by omega) (Rcs.of2 (by show _ = some (Value.int IntKind.i64 a); go_cell) (by show _ = some (Value.int IntKind.i64 b); go_cell) (by show _ = some (Value.int IntKind.i64 c); go_cell) (by show _ = some (Value.int IntKind.i64 d); go_cell) (by show _ = some (Value.int IntKind.i64 s); go_cell) (by show _ = some (Value.int IntKind.i64 t); go_cell) (by show _ = some (Value.int IntKind.i64 u); go_cell) (by show _ = some (Value.int IntKind.i64 v); go_cell))).mono ?_
  rw [HBB.out]
  rintro e w1 ⟨rfl, hb⟩
  have D1 : Below w.heap.size w w1 := Below.trans (by go_grown) (hb.mono (by first | omega | (simp; done) | (simp; omega)))
  have s1 : w.heap.size + 1 + 1 + 1 < w1.heap.size := by have hs := hb.size; (try simp at hs); omega
  obtain ⟨k1, k2⟩ := bcl hb
  have x00 := (k1 (w.heap.size) 0 (by first | omega | (simp; done) | (simp; omega))).trans (by go_cell : _ = some (.int .i64 a))
  have x01 := (k1 (w.heap.size) 1 (by first | omega | (simp; done) | (simp; omega))).trans (by go_cell : _ = some (.int .i64 b))
  have x02 := (k1 (w.heap.size) 2 (by first | omega | (simp; done) | (simp; omega))).trans (by go_cell : _ = some (.int .i64 c))
  have x03 := (k1 (w.heap.size) 3 (by first | omega | (simp; done) | (simp; omega))).trans (by go_cell : _ = some (.int .i64 d))
  have x10 := (k1 (w.heap.size + 1) 0 (by first | omega | (simp; done) | (simp; omega))).trans (by go_cell : _ = some (.int .i64 s))
  have x11 := (k1 (w.heap.size + 1) 1 (by first | omega | (simp; done) | (simp; omega))).trans (by go_cell : _ = some (.int .i64 t))
  have x12 := (k1 (w.heap.size + 1) 2 (by first | omega | (simp; done) | (simp; omega))).trans (by go_cell : _ = some (.int .i64 u))
  have x13 := (k1 (w.heap.size + 1) 3 (by first | omega | (simp; done) | (simp; omega))).trans (by go_cell : _ = some (.int .i64 v))
  have xf := (k1 (w.heap.size + 1 + 1) 0 (by first | omega | (simp; done) | (simp; omega))).trans (by go_cell : _ = some (.func (Fn.func 63) #[] #[]))
  have d0 := (k1 (w.heap.size + 1 + 1 + 1) 0 (by first | omega | (simp; done) | (simp; omega))).trans (by go_cell : _ = some (.int .i64 0))
  have f0 := (k2 (w.heap.size + 1 + 1 + 1) 0 (by first | omega | (simp; done) | (simp; omega))).trans (by go_cell : _ = false)
  have d1 := (k1 (w.heap.size + 1 + 1 + 1) 1 (by first | omega | (simp; done) | (simp; omega))).trans (by go_cell : _ = some (.int .i64 0))
  have f1 := (k2 (w.heap.size + 1 + 1 + 1) 1 (by first | omega | (simp; done) | (simp; omega))).trans (by go_cell : _ = false)
  have d2 := (k1 (w.heap.size + 1 + 1 + 1) 2 (by first | omega | (simp; done) | (simp; omega))).trans (by go_cell : _ = some (.int .i64 0))
  have f2 := (k2 (w.heap.size + 1 + 1 + 1) 2 (by first | omega | (simp; done) | (simp; omega))).trans (by go_cell : _ = false)
  have d3 := (k1 (w.heap.size + 1 + 1 + 1) 3 (by first | omega | (simp; done) | (simp; omega))).trans (by go_cell : _ = some (.int .i64 0))
  have f3 := (k2 (w.heap.size + 1 + 1 + 1) 3 (by first | omega | (simp; done) | (simp; omega))).trans (by go_cell : _ = false)
  clear hb k1 k2
  cases bb with
  | false =>
    have HN : Hid (SP = .bad 50) := Lib.hid (by rw [← HSP.out]; unfold onR2; rw [if_neg (by rw [HBB.out]; decide)])
    go_wp2_with fail
    refine bodyPost_ret (v := .tuple #[.agg #[.int .i64 0, .int .i64 0, .int .i64 0, .int .i64 0], .int .i64 50]) (by simp [results, Try.results62, go_sem, *]) rfl ⟨by rw [HN.out]; rfl, by go_grown⟩
  | true =>
    have HN : Hid (addR ⟨⟨a, b⟩, ⟨c, d⟩⟩ ⟨⟨s, t⟩, ⟨u, v⟩⟩ = SP) := Lib.hid (by rw [← HSP.out]; unfold onR2; rw [if_pos HBB.out])
    have HO := Lib.hid (two_ok HBB.out)
    go_wp2_with fail
    refine (attempt_combined ⟨w.heap.size + 1 + 1, 0, none⟩ ⟨w.heap.size, 0, none⟩ ⟨w.heap.size + 1, 0, none⟩ (addR ⟨⟨a, b⟩, ⟨c, d⟩⟩ ⟨⟨s, t⟩, ⟨u, v⟩⟩) _ (fun w2 hb => combAddC_any a b c d s t u v _ _ _ w2 HO.out.1 HO.out.2.1 HO.out.2.2.1 HO.out.2.2.2 (((bcl hb).1 _ _ (by omega)).trans xf) ⟨((bcl hb).1 _ _ (by omega)).trans x00, ((bcl hb).1 _ _ (by omega)).trans x01, ((bcl hb).1 _ _ (by omega)).trans x02, ((bcl hb).1 _ _ (by omega)).trans x03⟩ ⟨((bcl hb).1 _ _ (by omega)).trans x10, ((bcl hb).1 _ _ (by omega)).trans x11, ((bcl hb).1 _ _ (by omega)).trans x12, ((bcl hb).1 _ _ (by omega)).trans x13⟩)).mono ?_
    rw [HN.out]
    rintro e w2 ⟨rfl, hb⟩
    have D2 : Below w.heap.size w w2 := D1.trans (hb.mono D1.size)
    have s2 : w.heap.size + 1 + 1 + 1 < w2.heap.size := by have hs := hb.size; omega
    obtain ⟨k1, k2⟩ := bcl hb
    have e0 := (k1 (w.heap.size + 1 + 1 + 1) 0 (by omega)).trans d0
    have g0 := (k2 (w.heap.size + 1 + 1 + 1) 0 (by omega)).trans f0
    have e1 := (k1 (w.heap.size + 1 + 1 + 1) 1 (by omega)).trans d1
    have g1 := (k2 (w.heap.size + 1 + 1 + 1) 1 (by omega)).trans f1
    have e2 := (k1 (w.heap.size + 1 + 1 + 1) 2 (by omega)).trans d2
    have g2 := (k2 (w.heap.size + 1 + 1 + 1) 2 (by omega)).trans f2
    have e3 := (k1 (w.heap.size + 1 + 1 + 1) 3 (by omega)).trans d3
    have g3 := (k2 (w.heap.size + 1 + 1 + 1) 3 (by omega)).trans f3
    clear hb k1 k2 D1 xf x00 x01 x02 x03 x10 x11 x12 x13 d0 d1 d2 d3 f0 f1 f2 f3
    rcases SP with ⟨⟨p, q⟩, ⟨p', q'⟩⟩ | k
    · unfold OutR
      (try simp only)
      go_wp2_with fail
      refine bodyPost_ret (v := .tuple #[.agg #[.int .i64 p, .int .i64 q, .int .i64 p', .int .i64 q'], .int .i64 0]) (by simp [results, Try.results62, go_sem, *]) rfl ⟨rfl, by go_grown⟩
    · unfold OutR
      (try simp only)
      go_wp2_with fail
      refine bodyPost_ret (v := .tuple #[.agg #[.int .i64 0, .int .i64 0, .int .i64 0, .int .i64 0], .int .i64 k]) (by simp [results, Try.results62, go_sem, *]) rfl ⟨rfl, by go_grown⟩

set_option maxRecDepth 100000 in
set_option maxHeartbeats 2000000 in
theorem eAdd_any (a b c d s t u v : Int) (w : World) :
    Calls Try.prog 18 #[.agg #[.int .i64 a, .int .i64 b, .int .i64 c, .int .i64 d], .agg #[.int .i64 s, .int .i64 t, .int .i64 u, .int .i64 v]] w fun e w' => e = OutR (onR2 addR ⟨⟨a, b⟩, ⟨c, d⟩⟩ ⟨⟨s, t⟩, ⟨u, v⟩⟩) ∧ Below w.heap.size w w' := by
  obtain ⟨SP, hsp⟩ : ∃ SP, onR2 addR ⟨⟨a, b⟩, ⟨c, d⟩⟩ ⟨⟨s, t⟩, ⟨u, v⟩⟩ = SP := ⟨_, rfl⟩
  have HSP := Lib.hid hsp
  rw [hsp]
  clear hsp
  go_enter Try.func18, Try.ntmps18
  go_wp2_with fail
  refine (combAdd_any a b c d s t u v _).mono ?_
  rw [HSP.out]
  rintro e w1 ⟨rfl, hb⟩
  have D1 : Below w.heap.size w w1 := Below.trans (by go_grown) (hb.mono (by first | omega | (simp; done) | (simp; omega)))
  have s1 : w.heap.size + 1 + 1 < w1.heap.size := by have hs := hb.size; (try simp at hs); omega
  obtain ⟨k1, k2⟩ := bcl hb
  have d0 := (k1 (w.heap.size + 1 + 1) 0 (by first | omega | (simp; done) | (simp; omega))).trans (by go_cell : _ = some (.int .i64 0))
  have f0 := (k2 (w.heap.size + 1 + 1) 0 (by first | omega | (simp; done) | (simp; omega))).trans (by go_cell : _ = false)
  have d1 := (k1 (w.heap.size + 1 + 1) 1 (by first | omega | (simp; done) | (simp; omega))).trans (by go_cell : _ = some (.int .i64 0))
  have f1 := (k2 (w.heap.size + 1 + 1) 1 (by first | omega | (simp; done) | (simp; omega))).trans (by go_cell : _ = false)
  have d2 := (k1 (w.heap.size + 1 + 1) 2 (by first | omega | (simp; done) | (simp; omega))).trans (by go_cell : _ = some (.int .i64 0))
  have f2 := (k2 (w.heap.size + 1 + 1) 2 (by first | omega | (simp; done) | (simp; omega))).trans (by go_cell : _ = false)
  have d3 := (k1 (w.heap.size + 1 + 1) 3 (by first | omega | (simp; done) | (simp; omega))).trans (by go_cell : _ = some (.int .i64 0))
  have f3 := (k2 (w.heap.size + 1 + 1) 3 (by first | omega | (simp; done) | (simp; omega))).trans (by go_cell : _ = false)
  clear hb k1 k2
  rcases SP with ⟨⟨p, q⟩, ⟨p', q'⟩⟩ | k
  · unfold OutR
    (try simp only)
    go_wp2_with fail
    refine bodyPost_ret (v := .tuple #[.agg #[.int .i64 p, .int .i64 q, .int .i64 p', .int .i64 q'], .int .i64 0]) (by simp [results, Try.results18, go_sem, *]) rfl ⟨rfl, by go_grown⟩
  · unfold OutR
    (try simp only)
    go_wp2_with fail
    refine bodyPost_ret (v := .tuple #[.agg #[.int .i64 0, .int .i64 0, .int .i64 0, .int .i64 0], .int .i64 k]) (by simp [results, Try.results18, go_sem, *]) rfl ⟨rfl, by go_grown⟩
end Go.Proofs.Ytgbnpnenejgnnaa
