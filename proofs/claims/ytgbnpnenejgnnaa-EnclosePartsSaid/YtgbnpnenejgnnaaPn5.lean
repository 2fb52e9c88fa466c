import Derived.Test.YtgbnpnenejgnnaaEi
import Derived.Test.YtgbnpnenejgnnaaEat
import Derived.Test.YtgbnpnenejgnnaaEsp
import Derived.Defers
import Derived.Recover
namespace Go.Proofs.Ytgbnpnenejgnnaa
open Go.RowKit Encl

set_option maxRecDepth 100000 in
set_option maxHeartbeats 4000000 in
theorem attempt_part (px py : Addr) (o : Out Sp) (w : World) (H : ∀ w1, Below w.heap.size w w1 → Calls Try.prog 102 #[.pointer (some px), .pointer (some py)] w1 fun e w' => IsS e o ∧ Below w1.heap.size w1 w') :
    Calls Try.prog 78 #[.func (Fn.func 102) #[] #[.pointer (some px), .pointer (some py)]] w fun e w' => e = OutS o ∧ Below w.heap.size w w' := by
  have HH := Lib.hid H
  clear H
  have hmf : ∀ (fn : Fn) (first cap : Array Value) (w : World), (Instr.makeFunc fn first cap).run Try.prog w = .ok (.func fn first cap) w := fun _ _ _ _ => rfl
  go_enter_defers Try.func78, Try.ntmps78
  go_wp2_with fail
  refine (HH.out _ (by go_grown)).mono ?_
  rintro e w1 ⟨he, hb⟩
  have D1 : Below w.heap.size w w1 := Below.trans (by go_grown) (hb.mono (by first | omega | (simp; done) | (simp; omega)))
  have s1 : w.heap.size + 1 < w1.heap.size := by have hs := hb.size; (try simp at hs); omega
  have s0 : w.heap.size < w1.heap.size := by omega
  obtain ⟨k1, k2⟩ := bcl hb
  have d0 := (k1 w.heap.size 0 (by first | omega | (simp; done) | (simp; omega))).trans (by go_cell : _ = some (.int .i64 0))
  have f0 := (k2 w.heap.size 0 (by first | omega | (simp; done) | (simp; omega))).trans (by go_cell : _ = false)
  have d1 := (k1 w.heap.size 1 (by first | omega | (simp; done) | (simp; omega))).trans (by go_cell : _ = some (.int .i64 0))
  have f1 := (k2 w.heap.size 1 (by first | omega | (simp; done) | (simp; omega))).trans (by go_cell : _ = false)
  have d'0 := (k1 (w.heap.size + 1) 0 (by first | omega | (simp; done) | (simp; omega))).trans (by go_cell : _ = some (.int .i64 0))
  have f'0 := (k2 (w.heap.size + 1) 0 (by first | omega | (simp; done) | (simp; omega))).trans (by go_cell : _ = false)
  clear hb k1 k2
  rcases o with ⟨p, q⟩ | k
  · obtain rfl : e = .returned (.agg #[.int .i64 p, .int .i64 q]) := he
    go_wp2_with fail
    refine leaves_cons (f := 126) (args := #[.pointer (some ⟨w.heap.size + 1, 0, none⟩)]) (by simp) (by simp [go_sem]) ?_
    refine (catchS_idle ⟨w.heap.size + 1, 0, none⟩ _).mono ?_
    rintro e u' w2 ⟨rfl, rfl, rfl⟩
    simp [Leaves, settle, results, Try.results78, go_sem, *]
    exact ⟨rfl, by go_grown⟩
  · obtain rfl : e = .panicked [{ v := .iface 26 (.int .i64 k), recovered := false }] := he
    go_wp2_with fail
    refine leaves_cons (f := 126) (args := #[.pointer (some ⟨w.heap.size + 1, 0, none⟩)]) (by simp) (by simp [go_sem]) ?_
    refine (catchS_panicking ⟨w.heap.size + 1, 0, none⟩ 0 k [] _ ?_ ?_).mono ?_
    · go_cell
    · go_cell
    rintro e u' w2 ⟨rfl, rfl, rfl⟩
    simp [Leaves, settle, results, Try.results78, go_sem, *]
    exact ⟨rfl, by go_grown⟩

set_option maxRecDepth 100000 in
set_option maxHeartbeats 2000000 in
theorem partC_any (a d : Int) (g1 g2 : Nat) (w : World) (ha : -1000000000 ≤ a ∧ a ≤ 1000000000) (hd : 1 ≤ d ∧ d ≤ 1000000000) (hc1 : w.cell? ⟨g1, 0, none⟩ = some (.int .i64 a)) (hc2 : w.cell? ⟨g2, 0, none⟩ = some (.int .i64 d)) :
    Calls Try.prog 102 #[.pointer (some ⟨g1, 0, none⟩), .pointer (some ⟨g2, 0, none⟩)] w fun e w' => IsS e (scS a 1073741824 d) ∧ Below w.heap.size w w' := by
  obtain ⟨SP, hsp⟩ : ∃ SP, scS a 1073741824 d = SP := ⟨_, rfl⟩
  have HSP := Lib.hid hsp
  rw [hsp]
  clear hsp
  have hg1 : g1 < w.heap.size := World.block_lt_of_cell? w _ hc1
  have hg2 : g2 < w.heap.size := World.block_lt_of_cell? w _ hc2
  have HA := Lib.hid ha
  have HDD := Lib.hid hd
  clear ha hd
  go_enter Try.func102, Try.ntmps102
  go_wp2_with fail
  refine (scaled_any a 1073741824 d _ (by have := HA.out; omega) (by have := HA.out; omega) (by omega) (by omega) (by have := HDD.out; omega) (by have := HDD.out; omega)).mono ?_
  rintro e w1 ⟨he, hb⟩
  rw [HSP.out] at he
  have HE := Lib.hid he
  have D1 : Below w.heap.size w w1 := Below.trans (by go_grown) (hb.mono (by first | omega | (simp; done) | (simp; omega)))
  have s1 : w.heap.size < w1.heap.size := by have hs := hb.size; (try simp at hs); omega
  obtain ⟨k1, k2⟩ := bcl hb
  have d0 := (k1 (w.heap.size) 0 (by first | omega | (simp; done) | (simp; omega))).trans (by go_cell : _ = some (.int .i64 0))
  have f0 := (k2 (w.heap.size) 0 (by first | omega | (simp; done) | (simp; omega))).trans (by go_cell : _ = false)
  have d1 := (k1 (w.heap.size) 1 (by first | omega | (simp; done) | (simp; omega))).trans (by go_cell : _ = some (.int .i64 0))
  have f1 := (k2 (w.heap.size) 1 (by first | omega | (simp; done) | (simp; omega))).trans (by go_cell : _ = false)
  clear hb k1 k2 he
  rcases SP with ⟨p, q⟩ | k
  · obtain rfl : e = .returned (.agg #[.int .i64 p, .int .i64 q]) := HE.out
    go_wp2_with fail
    refine bodyPost_ret (v := .agg #[.int .i64 p, .int .i64 q]) (by simp [results, Try.results102, go_sem, *]) rfl ⟨rfl, by go_grown⟩
  · obtain rfl : e = .panicked [{ v := .iface 26 (.int .i64 k), recovered := false }] := HE.out
    go_wp2_with fail
    exact ⟨rfl, rfl, by go_grown⟩

set_option maxRecDepth 100000 in
set_option maxHeartbeats 2000000 in
theorem Part_any (a d : Int) (w : World) (ha : -1000000000 ≤ a ∧ a ≤ 1000000000) (hd : 1 ≤ d ∧ d ≤ 1000000000) :
    Calls Try.prog 52 #[.int .i64 a, .int .i64 d] w fun e w' => e = OutS (scS a 1073741824 d) ∧ Below w.heap.size w w' := by
  have hmf : ∀ (fn : Fn) (first cap : Array Value) (w : World), (Instr.makeFunc fn first cap).run Try.prog w = .ok (.func fn first cap) w := fun _ _ _ _ => rfl
  obtain ⟨SP, hsp⟩ : ∃ SP, scS a 1073741824 d = SP := ⟨_, rfl⟩
  have HSP := Lib.hid hsp
  rw [hsp]
  clear hsp
  have HA := Lib.hid ha
  have HDD := Lib.hid hd
  have n1 : ¬ d < 1 := by omega
  have n2 : ¬ 1000000000 < d := by omega
  have n3 : ¬ a < -1000000000 := by omega
  have n4 : ¬ 1000000000 < a := by omega
  clear ha hd
  go_enter Try.func52, Try.ntmps52
  go_wp2_with fail
  refine (attempt_part ⟨w.heap.size, 0, none⟩ ⟨w.heap.size + 1, 0, none⟩ (scS a 1073741824 d) _ (fun w1 hb => partC_any a d (w.heap.size) (w.heap.size + 1) w1 HA.out HDD.out ((hb.cell (p := ⟨w.heap.size, 0, none⟩) (by first | omega | (simp; done) | (simp; omega))).trans (by go_cell)) ((hb.cell (p := ⟨w.heap.size + 1, 0, none⟩) (by first | omega | (simp; done) | (simp; omega))).trans (by go_cell)))).mono ?_
  rw [HSP.out]
  rintro e w1 ⟨rfl, hb⟩
  have D1 : Below w.heap.size w w1 := Below.trans (by go_grown) (hb.mono (by first | omega | (simp; done) | (simp; omega)))
  have s1 : w.heap.size + 1 + 1 < w1.heap.size := by have hs := hb.size; (try simp at hs); omega
  obtain ⟨k1, k2⟩ := bcl hb
  have d0 := (k1 (w.heap.size + 1 + 1) 0 (by first | omega | (simp; done) | (simp; omega))).trans (by go_cell : _ = some (.int .i64 0))
  have f0 := (k2 (w.heap.size + 1 + 1) 0 (by first | omega | (simp; done) | (simp; omega))).trans (by go_cell : _ = false)
  have d1 := (k1 (w.heap.size + 1 + 1) 1 (by first | omega | (simp; done) | (simp; omega))).trans (by go_cell : _ = some (.int .i64 0))
  have f1 := (k2 (w.heap.size + 1 + 1) 1 (by first | omega | (simp; done) | (simp; omega))).trans (by go_cell : _ = false)
  clear hb k1 k2
  rcases SP with ⟨p, q⟩ | k
  · unfold OutS
    (try simp only)
    go_wp2_with fail
    refine bodyPost_ret (v := .tuple #[.agg #[.int .i64 p, .int .i64 q], .int .i64 0]) (by simp [results, Try.results52, go_sem, *]) rfl ⟨rfl, by go_grown⟩
  · unfold OutS
    (try simp only)
    go_wp2_with fail
    refine bodyPost_ret (v := .tuple #[.agg #[.int .i64 0, .int .i64 0], .int .i64 k]) (by simp [results, Try.results52, go_sem, *]) rfl ⟨rfl, by go_grown⟩

end Go.Proofs.Ytgbnpnenejgnnaa
