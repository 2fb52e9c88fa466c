import Derived.Test.YtgbnpnenejgnnaaEu
import Derived.Defers
import Derived.Recover
namespace Go.Proofs.Ytgbnpnenejgnnaa
open Go.RowKit Encl

set_option maxRecDepth 100000 in
set_option maxHeartbeats 2000000 in
theorem catchS_panicking (p : Addr) (x k : Int) (older : List PanicEntry) (w : World) (hc : w.cell? p = some (.int .i64 x)) (hz : w.frozen? p = false) :
    CallsD Try.prog 126 #[.pointer (some p)] (.panicking ({ v := .iface 26 (.int .i64 k), recovered := false } :: older)) w fun e u' w' =>
      e = .returned (.tuple #[]) ∧ u' = .panicking ({ v := .iface 26 (.int .i64 k), recovered := true } :: older) ∧ w' = w.setCell p (.int .i64 k) := by
  refine callsD_of_wpS Try.func126 rfl fun c₀ cs hu => ?_
  apply wpS_seq
  apply wpS_region
  simp [wpOpsS, go_sem, recoverD, hu, Try.ntmps126, Exit.thenS]
  refine wpS_of_wp ?_
  have hta : ∀ (w : World), (Instr.typeAssert (Value.iface 26 (Value.int IntKind.i64 k)) 20 26 true).run Try.prog w = .ok (.tuple #[.int .i64 k, .bool true]) w := fun _ => by kernel_rfl
  clear hu
  go_wp2_with fail
  simp [bodyPostS, results, Try.results126]

set_option maxRecDepth 100000 in
set_option maxHeartbeats 2000000 in
theorem catchS_idle (p : Addr) (w : World) :
    CallsD Try.prog 126 #[.pointer (some p)] .returning w fun e u' w' => e = .returned (.tuple #[]) ∧ u' = .returning ∧ w' = w := by
  refine callsD_of_wpS Try.func126 rfl fun c₀ cs hu => ?_
  apply wpS_seq
  apply wpS_region
  simp [wpOpsS, go_sem, recoverD, hu, Try.ntmps126, Exit.thenS]
  refine wpS_of_wp ?_
  go_wp2_with fail
  cases c₀
  simp_all [bodyPostS, results, Try.results126]
set_option maxRecDepth 100000 in
set_option maxHeartbeats 2000000 in
theorem catchR_panicking (p : Addr) (x k : Int) (older : List PanicEntry) (w : World) (hc : w.cell? p = some (.int .i64 x)) (hz : w.frozen? p = false) :
    CallsD Try.prog 135 #[.pointer (some p)] (.panicking ({ v := .iface 26 (.int .i64 k), recovered := false } :: older)) w fun e u' w' =>
      e = .returned (.tuple #[]) ∧ u' = .panicking ({ v := .iface 26 (.int .i64 k), recovered := true } :: older) ∧ w' = w.setCell p (.int .i64 k) := by
  refine callsD_of_wpS Try.func135 rfl fun c₀ cs hu => ?_
  apply wpS_seq
  apply wpS_region
  simp [wpOpsS, go_sem, recoverD, hu, Try.ntmps135, Exit.thenS]
  refine wpS_of_wp ?_
  have hta : ∀ (w : World), (Instr.typeAssert (Value.iface 26 (Value.int IntKind.i64 k)) 20 26 true).run Try.prog w = .ok (.tuple #[.int .i64 k, .bool true]) w := fun _ => by kernel_rfl
  clear hu
  go_wp2_with fail
  simp [bodyPostS, results, Try.results135]

set_option maxRecDepth 100000 in
set_option maxHeartbeats 2000000 in
theorem catchR_idle (p : Addr) (w : World) :
    CallsD Try.prog 135 #[.pointer (some p)] .returning w fun e u' w' => e = .returned (.tuple #[]) ∧ u' = .returning ∧ w' = w := by
  refine callsD_of_wpS Try.func135 rfl fun c₀ cs hu => ?_
  apply wpS_seq
  apply wpS_region
  simp [wpOpsS, go_sem, recoverD, hu, Try.ntmps135, Exit.thenS]
  refine wpS_of_wp ?_
  go_wp2_with fail
  cases c₀
  simp_all [bodyPostS, results, Try.results135]
set_option maxRecDepth 100000 in
set_option maxHeartbeats 2000000 in
theorem catchP_panicking (p : Addr) (x k : Int) (older : List PanicEntry) (w : World) (hc : w.cell? p = some (.int .i64 x)) (hz : w.frozen? p = false) :
    CallsD Try.prog 142 #[.pointer (some p)] (.panicking ({ v := .iface 26 (.int .i64 k), recovered := false } :: older)) w fun e u' w' =>
      e = .returned (.tuple #[]) ∧ u' = .panicking ({ v := .iface 26 (.int .i64 k), recovered := true } :: older) ∧ w' = w.setCell p (.int .i64 k) := by
  refine callsD_of_wpS Try.func142 rfl fun c₀ cs hu => ?_
  apply wpS_seq
  apply wpS_region
  simp [wpOpsS, go_sem, recoverD, hu, Try.ntmps142, Exit.thenS]
  refine wpS_of_wp ?_
  have hta : ∀ (w : World), (Instr.typeAssert (Value.iface 26 (Value.int IntKind.i64 k)) 20 26 true).run Try.prog w = .ok (.tuple #[.int .i64 k, .bool true]) w := fun _ => by kernel_rfl
  clear hu
  go_wp2_with fail
  simp [bodyPostS, results, Try.results142]

set_option maxRecDepth 100000 in
set_option maxHeartbeats 2000000 in
theorem catchP_idle (p : Addr) (w : World) :
    CallsD Try.prog 142 #[.pointer (some p)] .returning w fun e u' w' => e = .returned (.tuple #[]) ∧ u' = .returning ∧ w' = w := by
  refine callsD_of_wpS Try.func142 rfl fun c₀ cs hu => ?_
  apply wpS_seq
  apply wpS_region
  simp [wpOpsS, go_sem, recoverD, hu, Try.ntmps142, Exit.thenS]
  refine wpS_of_wp ?_
  go_wp2_with fail
  cases c₀
  simp_all [bodyPostS, results, Try.results142]
set_option maxRecDepth 100000 in
set_option maxHeartbeats 2000000 in
theorem catchD_panicking (p : Addr) (x k : Int) (older : List PanicEntry) (w : World) (hc : w.cell? p = some (.int .i64 x)) (hz : w.frozen? p = false) :
    CallsD Try.prog 143 #[.pointer (some p)] (.panicking ({ v := .iface 26 (.int .i64 k), recovered := false } :: older)) w fun e u' w' =>
      e = .returned (.tuple #[]) ∧ u' = .panicking ({ v := .iface 26 (.int .i64 k), recovered := true } :: older) ∧ w' = w.setCell p (.int .i64 k) := by
  refine callsD_of_wpS Try.func143 rfl fun c₀ cs hu => ?_
  apply wpS_seq
  apply wpS_region
  simp [wpOpsS, go_sem, recoverD, hu, Try.ntmps143, Exit.thenS]
  refine wpS_of_wp ?_
  have hta : ∀ (w : World), (Instr.typeAssert (Value.iface 26 (Value.int IntKind.i64 k)) 20 26 true).run Try.prog w = .ok (.tuple #[.int .i64 k, .bool true]) w := fun _ => by kernel_rfl
  clear hu
  go_wp2_with fail
  simp [bodyPostS, results, Try.results143]

set_option maxRecDepth 100000 in
set_option maxHeartbeats 2000000 in
theorem catchD_idle (p : Addr) (w : World) :
    CallsD Try.prog 143 #[.pointer (some p)] .returning w fun e u' w' => e = .returned (.tuple #[]) ∧ u' = .returning ∧ w' = w := by
  refine callsD_of_wpS Try.func143 rfl fun c₀ cs hu => ?_
  apply wpS_seq
  apply wpS_region
  simp [wpOpsS, go_sem, recoverD, hu, Try.ntmps143, Exit.thenS]
  refine wpS_of_wp ?_
  go_wp2_with fail
  cases c₀
  simp_all [bodyPostS, results, Try.results143]
/-- What a call of the package hands back: the result, or the error and nothing. -/
def OutS : Out Sp → Ending
  | .ok s => .returned (.tuple #[.agg #[.int .i64 s.lo, .int .i64 s.hi], .int .i64 0])
  | .bad k => .returned (.tuple #[.agg #[.int .i64 0, .int .i64 0], .int .i64 k])
def OutR : Out Rc → Ending
  | .ok x => .returned (.tuple #[.agg #[.int .i64 x.re.lo, .int .i64 x.re.hi, .int .i64 x.im.lo, .int .i64 x.im.hi], .int .i64 0])
  | .bad k => .returned (.tuple #[.agg #[.int .i64 0, .int .i64 0, .int .i64 0, .int .i64 0], .int .i64 k])

set_option maxRecDepth 100000 in
set_option maxHeartbeats 4000000 in
theorem attempt_power (px : Addr) (o : Out Sp) (w : World) (H : ∀ w1, Below w.heap.size w w1 → Calls Try.prog 79 #[.pointer (some px)] w1 fun e w' => IsS e o ∧ Below w1.heap.size w1 w') :
    Calls Try.prog 78 #[.func (Fn.func 79) #[] #[.pointer (some px)]] w fun e w' => e = OutS o ∧ Below w.heap.size w w' := by
  have HH := Lib.hid H
  clear H
  have hmf : ∀ (fn : Fn) (first cap : Array Value) (w : World), (Instr.makeFunc fn first cap).run Try.prog w = .ok (.func fn first cap) w := fun _ _ _ _ => rfl
  go_enter_defers Try.func78, Try.ntmps78
  go_wp2_with fail
  refine (HH.out _ (by go_grown)).mono ?_
  rintro e w1 ⟨he, hb⟩
  have D1 : Below w.heap.size w w1 := Below.trans (by go_grown) (hb.mono (by first | omega | (simp; done) | (simp; omega)))
  have s1 : w.heap.size + 1 < w1.heap.size := by have hs := hb.size; (try simp at hs); omega
  have s0 : w.heap.size < w1.heap.size := by omega
  obtain ⟨k1, k2⟩ := bcl hb
  have d0 := (k1 w.heap.size 0 (by first | omega | (simp; done) | (simp; omega))).trans (by go_cell : _ = some (.int .i64 0))
  have f0 := (k2 w.heap.size 0 (by first | omega | (simp; done) | (simp; omega))).trans (by go_cell : _ = false)
  have d1 := (k1 w.heap.size 1 (by first | omega | (simp; done) | (simp; omega))).trans (by go_cell : _ = some (.int .i64 0))
  have f1 := (k2 w.heap.size 1 (by first | omega | (simp; done) | (simp; omega))).trans (by go_cell : _ = false)
  have d'0 := (k1 (w.heap.size + 1) 0 (by first | omega | (simp; done) | (simp; omega))).trans (by go_cell : _ = some (.int .i64 0))
  have f'0 := (k2 (w.heap.size + 1) 0 (by first | omega | (simp; done) | (simp; omega))).trans (by go_cell : _ = false)
  clear hb k1 k2
  rcases o with ⟨p, q⟩ | k
  · obtain rfl : e = .returned (.agg #[.int .i64 p, .int .i64 q]) := he
    go_wp2_with fail
    refine leaves_cons (f := 126) (args := #[.pointer (some ⟨w.heap.size + 1, 0, none⟩)]) (by simp) (by simp [go_sem]) ?_
    refine (catchS_idle ⟨w.heap.size + 1, 0, none⟩ _).mono ?_
    rintro e u' w2 ⟨rfl, rfl, rfl⟩
    simp [Leaves, settle, results, Try.results78, go_sem, *]
    exact ⟨rfl, by go_grown⟩
  · obtain rfl : e = .panicked [{ v := .iface 26 (.int .i64 k), recovered := false }] := he
    go_wp2_with fail
    refine leaves_cons (f := 126) (args := #[.pointer (some ⟨w.heap.size + 1, 0, none⟩)]) (by simp) (by simp [go_sem]) ?_
    refine (catchS_panicking ⟨w.heap.size + 1, 0, none⟩ 0 k [] _ ?_ ?_).mono ?_
    · go_cell
    · go_cell
    rintro e u' w2 ⟨rfl, rfl, rfl⟩
    simp [Leaves, settle, results, Try.results78, go_sem, *]
    exact ⟨rfl, by go_grown⟩

set_option maxRecDepth 100000 in
set_option maxHeartbeats 4000000 in
theorem attempt_unit (px : Addr) (o : Out Rc) (w : World) (H : ∀ w1, Below w.heap.size w w1 → Calls Try.prog 85 #[.pointer (some px)] w1 fun e w' => IsR e o ∧ Below w1.heap.size w1 w') :
    Calls Try.prog 84 #[.func (Fn.func 85) #[] #[.pointer (some px)]] w fun e w' => e = OutR o ∧ Below w.heap.size w w' := by
  have HH := Lib.hid H
  clear H
  have hmf : ∀ (fn : Fn) (first cap : Array Value) (w : World), (Instr.makeFunc fn first cap).run Try.prog w = .ok (.func fn first cap) w := fun _ _ _ _ => rfl
  go_enter_defers Try.func84, Try.ntmps84
  go_wp2_with fail
  refine (HH.out _ (by go_grown)).mono ?_
  rintro e w1 ⟨he, hb⟩
  have D1 : Below w.heap.size w w1 := Below.trans (by go_grown) (hb.mono (by first | omega | (simp; done) | (simp; omega)))
  have s1 : w.heap.size + 1 < w1.heap.size := by have hs := hb.size; (try simp at hs); omega
  have s0 : w.heap.size < w1.heap.size := by omega
  obtain ⟨k1, k2⟩ := bcl hb
  have d0 := (k1 w.heap.size 0 (by first | omega | (simp; done) | (simp; omega))).trans (by go_cell : _ = some (.int .i64 0))
  have f0 := (k2 w.heap.size 0 (by first | omega | (simp; done) | (simp; omega))).trans (by go_cell : _ = false)
  have d1 := (k1 w.heap.size 1 (by first | omega | (simp; done) | (simp; omega))).trans (by go_cell : _ = some (.int .i64 0))
  have f1 := (k2 w.heap.size 1 (by first | omega | (simp; done) | (simp; omega))).trans (by go_cell : _ = false)
  have d2 := (k1 w.heap.size 2 (by first | omega | (simp; done) | (simp; omega))).trans (by go_cell : _ = some (.int .i64 0))
  have f2 := (k2 w.heap.size 2 (by first | omega | (simp; done) | (simp; omega))).trans (by go_cell : _ = false)
  have d3 := (k1 w.heap.size 3 (by first | omega | (simp; done) | (simp; omega))).trans (by go_cell : _ = some (.int .i64 0))
  have f3 := (k2 w.heap.size 3 (by first | omega | (simp; done) | (simp; omega))).trans (by go_cell : _ = false)
  have d'0 := (k1 (w.heap.size + 1) 0 (by first | omega | (simp; done) | (simp; omega))).trans (by go_cell : _ = some (.int .i64 0))
  have f'0 := (k2 (w.heap.size + 1) 0 (by first | omega | (simp; done) | (simp; omega))).trans (by go_cell : _ = false)
  clear hb k1 k2
  rcases o with ⟨⟨p, q⟩, ⟨s, t⟩⟩ | k
  · obtain rfl : e = .returned (.agg #[.int .i64 p, .int .i64 q, .int .i64 s, .int .i64 t]) := he
    go_wp2_with fail
    refine leaves_cons (f := 135) (args := #[.pointer (some ⟨w.heap.size + 1, 0, none⟩)]) (by simp) (by simp [go_sem]) ?_
    refine (catchR_idle ⟨w.heap.size + 1, 0, none⟩ _).mono ?_
    rintro e u' w2 ⟨rfl, rfl, rfl⟩
    simp [Leaves, settle, results, Try.results84, go_sem, *]
    exact ⟨rfl, by go_grown⟩
  · obtain rfl : e = .panicked [{ v := .iface 26 (.int .i64 k), recovered := false }] := he
    go_wp2_with fail
    refine leaves_cons (f := 135) (args := #[.pointer (some ⟨w.heap.size + 1, 0, none⟩)]) (by simp) (by simp [go_sem]) ?_
    refine (catchR_panicking ⟨w.heap.size + 1, 0, none⟩ 0 k [] _ ?_ ?_).mono ?_
    · go_cell
    · go_cell
    rintro e u' w2 ⟨rfl, rfl, rfl⟩
    simp [Leaves, settle, results, Try.results84, go_sem, *]
    exact ⟨rfl, by go_grown⟩

set_option maxRecDepth 100000 in
set_option maxHeartbeats 4000000 in
theorem attempt_combined (pf px py : Addr) (o : Out Rc) (w : World) (H : ∀ w1, Below w.heap.size w w1 → Calls Try.prog 116 #[.pointer (some pf), .pointer (some px), .pointer (some py)] w1 fun e w' => IsR e o ∧ Below w1.heap.size w1 w') :
    Calls Try.prog 84 #[.func (Fn.func 116) #[] #[.pointer (some pf), .pointer (some px), .pointer (some py)]] w fun e w' => e = OutR o ∧ Below w.heap.size w w' := by
  have HH := Lib.hid H
  clear H
  have hmf : ∀ (fn : Fn) (first cap : Array Value) (w : World), (Instr.makeFunc fn first cap).run Try.prog w = .ok (.func fn first cap) w := fun _ _ _ _ => rfl
  go_enter_defers Try.func84, Try.ntmps84
  go_wp2_with fail
  refine (HH.out _ (by go_grown)).mono ?_
  rintro e w1 ⟨he, hb⟩
  have D1 : Below w.heap.size w w1 := Below.trans (by go_grown) (hb.mono (by first | omega | (simp; done) | (simp; omega)))
  have s1 : w.heap.size + 1 < w1.heap.size := by have hs := hb.size; (try simp at hs); omega
  have s0 : w.heap.size < w1.heap.size := by omega
  obtain ⟨k1, k2⟩ := bcl hb
  have d0 := (k1 w.heap.size 0 (by first | omega | (simp; done) | (simp; omega))).trans (by go_cell : _ = some (.int .i64 0))
  have f0 := (k2 w.heap.size 0 (by first | omega | (simp; done) | (simp; omega))).trans (by go_cell : _ = false)
  have d1 := (k1 w.heap.size 1 (by first | omega | (simp; done) | (simp; omega))).trans (by go_cell : _ = some (.int .i64 0))
  have f1 := (k2 w.heap.size 1 (by first | omega | (simp; done) | (simp; omega))).trans (by go_cell : _ = false)
  have d2 := (k1 w.heap.size 2 (by first | omega | (simp; done) | (simp; omega))).trans (by go_cell : _ = some (.int .i64 0))
  have f2 := (k2 w.heap.size 2 (by first | omega | (simp; done) | (simp; omega))).trans (by go_cell : _ = false)
  have d3 := (k1 w.heap.size 3 (by first | omega | (simp; done) | (simp; omega))).trans (by go_cell : _ = some (.int .i64 0))
  have f3 := (k2 w.heap.size 3 (by first | omega | (simp; done) | (simp; omega))).trans (by go_cell : _ = false)
  have d'0 := (k1 (w.heap.size + 1) 0 (by first | omega | (simp; done) | (simp; omega))).trans (by go_cell : _ = some (.int .i64 0))
  have f'0 := (k2 (w.heap.size + 1) 0 (by first | omega | (simp; done) | (simp; omega))).trans (by go_cell : _ = false)
  clear hb k1 k2
  rcases o with ⟨⟨p, q⟩, ⟨s, t⟩⟩ | k
  · obtain rfl : e = .returned (.agg #[.int .i64 p, .int .i64 q, .int .i64 s, .int .i64 t]) := he
    go_wp2_with fail
    refine leaves_cons (f := 135) (args := #[.pointer (some ⟨w.heap.size + 1, 0, none⟩)]) (by simp) (by simp [go_sem]) ?_
    refine (catchR_idle ⟨w.heap.size + 1, 0, none⟩ _).mono ?_
    rintro e u' w2 ⟨rfl, rfl, rfl⟩
    simp [Leaves, settle, results, Try.results84, go_sem, *]
    exact ⟨rfl, by go_grown⟩
  · obtain rfl : e = .panicked [{ v := .iface 26 (.int .i64 k), recovered := false }] := he
    go_wp2_with fail
    refine leaves_cons (f := 135) (args := #[.pointer (some ⟨w.heap.size + 1, 0, none⟩)]) (by simp) (by simp [go_sem]) ?_
    refine (catchR_panicking ⟨w.heap.size + 1, 0, none⟩ 0 k [] _ ?_ ?_).mono ?_
    · go_cell
    · go_cell
    rintro e u' w2 ⟨rfl, rfl, rfl⟩
    simp [Leaves, settle, results, Try.results84, go_sem, *]
    exact ⟨rfl, by go_grown⟩

end Go.Proofs.Ytgbnpnenejgnnaa
