import Derived.Test.YtgbnpnenejgnnaaEi
import Derived.Test.YtgbnpnenejgnnaaEat
import Derived.Test.YtgbnpnenejgnnaaMe
import Derived.Test.YtgbnpnenejgnnaaMi
import Derived.Test.YtgbnpnenejgnnaaEn4
import Derived.Deep.DeepCutAuto
namespace Encl
def powO (x : Rc) : Out Sp := if okR x = true then powR x else .bad 50
def rootO (s : Sp) : Out Sp := if okS s = true then (if s.lo < 0 then .bad 2 else .ok (rootS s)) else .bad 50
end Encl
namespace Go.Proofs.Ytgbnpnenejgnnaa
open Go.RowKit Encl

set_option maxRecDepth 100000 in
set_option maxHeartbeats 2000000 in
theorem powerC_any (a b c d : Int) (g : Nat) (w : World) (h1 : okS ⟨a, b⟩ = true) (h2 : okS ⟨c, d⟩ = true) (hc0 : w.cell? ⟨g, 0, none⟩ = some (.int .i64 a)) (hc1 : w.cell? ⟨g, 1, none⟩ = some (.int .i64 b)) (hc2 : w.cell? ⟨g, 2, none⟩ = some (.int .i64 c)) (hc3 : w.cell? ⟨g, 3, none⟩ = some (.int .i64 d)) :
    Calls Try.prog 79 #[.pointer (some ⟨g, 0, none⟩)] w fun e w' => IsS e (powR ⟨⟨a, b⟩, ⟨c, d⟩⟩) ∧ Below w.heap.size w w' := by
  obtain ⟨SP, hsp⟩ : ∃ SP, powR ⟨⟨a, b⟩, ⟨c, d⟩⟩ = SP := ⟨_, rfl⟩
  have HSP := Lib.hid hsp
  rw [hsp]
  have H1 := Lib.hid h1
  have H2 := Lib.hid h2
  clear hsp h1 h2
  have hg : g < w.heap.size := World.block_lt_of_cell? w _ hc0
  go_enter Try.func79, Try.ntmps79
  go_wp2_with fail
  refine (power_any a b c d _ H1.out H2.out).mono ?_
  rintro e w1 ⟨he, hb⟩
  rw [HSP.out] at he
  have HE := Lib.hid he
  have D1 : Below w.heap.size w w1 := Below.trans (by go_grown) (hb.mono (by first | omega | (simp; done) | (simp; omega)))
  have s1 : w.heap.size < w1.heap.size := by have hs := hb.size; (try simp at hs); omega
  obtain ⟨k1, k2⟩ := bcl hb
  have d0 := (k1 (w.heap.size) 0 (by first | omega | (simp; done) | (simp; omega))).trans (by go_cell : _ = some (.int .i64 0))
  have d1 := (k1 (w.heap.size) 1 (by first | omega | (simp; done) | (simp; omega))).trans (by go_cell : _ = some (.int .i64 0))
  have f0 := (k2 (w.heap.size) 0 (by first | omega | (simp; done) | (simp; omega))).trans (by go_cell : _ = false)
  have f1 := (k2 (w.heap.size) 1 (by first | omega | (simp; done) | (simp; omega))).trans (by go_cell : _ = false)
  clear hb k1 k2 he
  rcases SP with ⟨p, q⟩ | k
  · obtain rfl : e = .returned (.agg #[.int .i64 p, .int .i64 q]) := HE.out
    go_wp2_with fail
    refine bodyPost_ret (v := .agg #[.int .i64 p, .int .i64 q]) (by simp [results, Try.results79, go_sem, *]) rfl ⟨rfl, by go_grown⟩
  · obtain rfl : e = .panicked [{ v := .iface 26 (.int .i64 k), recovered := false }] := HE.out
    go_wp2_with fail
    exact ⟨rfl, rfl, by go_grown⟩

set_option maxRecDepth 100000 in
set_option maxHeartbeats 4000000 in
theorem ePower_any (a b c d : Int) (w : World) :
    Calls Try.prog 35 #[.agg #[.int .i64 a, .int .i64 b, .int .i64 c, .int .i64 d]] w fun e w' => e = OutS (powO ⟨⟨a, b⟩, ⟨c, d⟩⟩) ∧ Below w.heap.size w w' := by
  have hmf : ∀ (fn : Fn) (first cap : Array Value) (w : World), (Instr.makeFunc fn first cap).run Try.prog w = .ok (.func fn first cap) w := fun _ _ _ _ => rfl
  obtain ⟨SP, hsp⟩ : ∃ SP, powO ⟨⟨a, b⟩, ⟨c, d⟩⟩ = SP := ⟨_, rfl⟩
  have HSP := Lib.hid hsp
  rw [hsp]
  clear hsp
  obtain ⟨bb, hbb⟩ : ∃ bb, okR ⟨⟨a, b⟩, ⟨c, d⟩⟩ = bb := ⟨_, rfl⟩
  have HBB := Lib.hid hbb
  clear hbb
  go_enter Try.func35, Try.ntmps35
  go_wp2_with fail
  refine (valid_any _ 1 1 (fun _ => ⟨⟨a, b⟩, ⟨c, d⟩⟩) _ (by omega) (Rcs.of1 (by go_cell) (by go_cell) (by go_cell) (by go_cell))).mono ?_
  rw [okTo1, HBB.out]
  rintro e w1 ⟨rfl, hb⟩
  have D1 : Below w.heap.size w w1 := Below.trans (by go_grown) (hb.mono (by first | omega | (simp; done) | (simp; omega)))
  have s1 : w.heap.size + 1 + 1 < w1.heap.size := by have hs := hb.size; (try simp at hs); omega
  obtain ⟨k1, k2⟩ := bcl hb
  have x0 := (k1 (w.heap.size) 0 (by first | omega | (simp; done) | (simp; omega))).trans (by go_cell : _ = some (.int .i64 a))
  have x1 := (k1 (w.heap.size) 1 (by first | omega | (simp; done) | (simp; omega))).trans (by go_cell : _ = some (.int .i64 b))
  have x2 := (k1 (w.heap.size) 2 (by first | omega | (simp; done) | (simp; omega))).trans (by go_cell : _ = some (.int .i64 c))
  have x3 := (k1 (w.heap.size) 3 (by first | omega | (simp; done) | (simp; omega))).trans (by go_cell : _ = some (.int .i64 d))
  have d0 := (k1 (w.heap.size + 1) 0 (by first | omega | (simp; done) | (simp; omega))).trans (by go_cell : _ = some (.int .i64 0))
  have d1 := (k1 (w.heap.size + 1) 1 (by first | omega | (simp; done) | (simp; omega))).trans (by go_cell : _ = some (.int .i64 0))
  have f0 := (k2 (w.heap.size + 1) 0 (by first | omega | (simp; done) | (simp; omega))).trans (by go_cell : _ = false)
  have f1 := (k2 (w.heap.size + 1) 1 (by first | omega | (simp; done) | (simp; omega))).trans (by go_cell : _ = false)
  clear hb k1 k2
  cases bb with
  | false =>
    have HN : Hid (SP = .bad 50) := Lib.hid (by rw [← HSP.out]; unfold powO; rw [if_neg (by rw [HBB.out]; decide)])
    go_wp2_with fail
    refine bodyPost_ret (v := .tuple #[.agg #[.int .i64 0, .int .i64 0], .int .i64 50]) (by simp [results, Try.results35, go_sem, *]) rfl ⟨by rw [HN.out]; rfl, by go_grown⟩
  | true =>
    have HO := Lib.hid ((okR_iff _).1 HBB.out)
    have HN : Hid (powR ⟨⟨a, b⟩, ⟨c, d⟩⟩ = SP) := Lib.hid (by rw [← HSP.out]; unfold powO; rw [if_pos HBB.out])
    go_wp2_with fail
    refine (attempt_power ⟨w.heap.size, 0, none⟩ SP _ (fun w2 hb => by
      rw [← HN.out]
      refine powerC_any a b c d w.heap.size w2 HO.out.1 HO.out.2 ?_ ?_ ?_ ?_
      all_goals exact (hb.cell (p := ⟨w.heap.size, _, none⟩) (by simp only; omega)).trans (by assumption))).mono ?_
    rintro e w3 ⟨rfl, hb⟩
    have D3 : Below w.heap.size w w3 := Below.trans D1 (hb.mono (by have := D1.size; omega))
    have s3 : w.heap.size + 1 < w3.heap.size := by have hs := hb.size; omega
    obtain ⟨k1, k2⟩ := bcl hb
    have e0 := (k1 (w.heap.size + 1) 0 (by omega)).trans d0
    have e1 := (k1 (w.heap.size + 1) 1 (by omega)).trans d1
    have g0 := (k2 (w.heap.size + 1) 0 (by omega)).trans f0
    have g1 := (k2 (w.heap.size + 1) 1 (by omega)).trans f1
    clear hb k1 k2 x0 x1 x2 x3 d0 d1 f0 f1 D1 s1
    rcases SP with ⟨p, q⟩ | k
    · unfold OutS
      (try simp only)
      go_wp2_with fail
      refine bodyPost_ret (v := .tuple #[.agg #[.int .i64 p, .int .i64 q], .int .i64 0]) (by simp [results, Try.results35, go_sem, *]) rfl ⟨rfl, by go_grown⟩
    · unfold OutS
      (try simp only)
      go_wp2_with fail
      refine bodyPost_ret (v := .tuple #[.agg #[.int .i64 0, .int .i64 0], .int .i64 k]) (by simp [results, Try.results35, go_sem, *]) rfl ⟨rfl, by go_grown⟩

set_option maxRecDepth 100000 in
set_option maxHeartbeats 4000000 in
theorem eRoot_any (a b : Int) (w : World) :
    Calls Try.prog 37 #[.agg #[.int .i64 a, .int .i64 b]] w fun e w' => e = OutS (rootO ⟨a, b⟩) ∧ Below w.heap.size w w' := by
  obtain ⟨SP, hsp⟩ : ∃ SP, rootO ⟨a, b⟩ = SP := ⟨_, rfl⟩
  have HSP := Lib.hid hsp
  rw [hsp]
  clear hsp
  obtain ⟨bb, hbb⟩ : ∃ bb, okS ⟨a, b⟩ = bb := ⟨_, rfl⟩
  have HBB := Lib.hid hbb
  clear hbb
  go_enter Try.func37, Try.ntmps37
  go_wp2_with fail
  refine (eValid_any a b _).mono ?_
  rw [HBB.out]
  rintro e w1 ⟨rfl, hb⟩
  have D1 : Below w.heap.size w w1 := Below.trans (by go_grown) (hb.mono (by first | omega | (simp; done) | (simp; omega)))
  have s1 : w.heap.size + 1 < w1.heap.size := by have hs := hb.size; (try simp at hs); omega
  obtain ⟨k1, k2⟩ := bcl hb
  have x0 := (k1 (w.heap.size) 0 (by first | omega | (simp; done) | (simp; omega))).trans (by go_cell : _ = some (.int .i64 a))
  have x1 := (k1 (w.heap.size) 1 (by first | omega | (simp; done) | (simp; omega))).trans (by go_cell : _ = some (.int .i64 b))
  have d0 := (k1 (w.heap.size + 1) 0 (by first | omega | (simp; done) | (simp; omega))).trans (by go_cell : _ = some (.int .i64 0))
  have d1 := (k1 (w.heap.size + 1) 1 (by first | omega | (simp; done) | (simp; omega))).trans (by go_cell : _ = some (.int .i64 0))
  have f0 := (k2 (w.heap.size + 1) 0 (by first | omega | (simp; done) | (simp; omega))).trans (by go_cell : _ = false)
  have f1 := (k2 (w.heap.size + 1) 1 (by first | omega | (simp; done) | (simp; omega))).trans (by go_cell : _ = false)
  clear hb k1 k2
  cases bb with
  | false =>
    have HN : Hid (SP = .bad 50) := Lib.hid (by rw [← HSP.out]; unfold rootO; rw [if_neg (by rw [HBB.out]; decide)])
    go_wp2_with fail
    refine bodyPost_ret (v := .tuple #[.agg #[.int .i64 0, .int .i64 0], .int .i64 50]) (by simp [results, Try.results37, go_sem, *]) rfl ⟨by rw [HN.out]; rfl, by go_grown⟩
  | true =>
    by_cases hn : a < 0
    · have HN : Hid (SP = .bad 2) := Lib.hid (by rw [← HSP.out]; unfold rootO; rw [if_pos HBB.out]; exact if_pos hn)
      go_wp2_with fail
      refine bodyPost_ret (v := .tuple #[.agg #[.int .i64 0, .int .i64 0], .int .i64 2]) (by simp [results, Try.results37, go_sem, *]) rfl ⟨by rw [HN.out]; rfl, by go_grown⟩
    · obtain ⟨p, q, hpq⟩ : ∃ p q, rootS ⟨a, b⟩ = ⟨p, q⟩ := ⟨_, _, rfl⟩
      have HN : Hid (SP = .ok ⟨p, q⟩) := Lib.hid (by rw [← HSP.out]; unfold rootO; rw [if_pos HBB.out, ← hpq]; exact if_neg hn)
      have HP := Lib.hid hpq
      clear hpq
      go_wp2_with fail
      refine (rootSpan_any a b _ HBB.out (by omega)).mono ?_
      rw [HP.out]
      rintro e w3 ⟨he, hb⟩
      obtain rfl : e = .returned (.agg #[.int .i64 p, .int .i64 q]) := he
      have D3 : Below w.heap.size w w3 := Below.trans D1 (hb.mono (by have := D1.size; omega))
      have s3 : w.heap.size + 1 < w3.heap.size := by have hs := hb.size; omega
      obtain ⟨k1, k2⟩ := bcl hb
      have e0 := (k1 (w.heap.size + 1) 0 (by omega)).trans d0
      have e1 := (k1 (w.heap.size + 1) 1 (by omega)).trans d1
      have g0 := (k2 (w.heap.size + 1) 0 (by omega)).trans f0
      have g1 := (k2 (w.heap.size + 1) 1 (by omega)).trans f1
      clear hb k1 k2 x0 x1 d0 d1 f0 f1 D1 s1
      go_wp2_with fail
      refine bodyPost_ret (v := .tuple #[.agg #[.int .i64 p, .int .i64 q], .int .i64 0]) (by simp [results, Try.results37, go_sem, *]) rfl ⟨by rw [HN.out]; rfl, by go_grown⟩
end Go.Proofs.Ytgbnpnenejgnnaa
