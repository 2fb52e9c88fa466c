import Derived.Test.YtilclpldfoifkaaGw5
import Derived.Test.YtilclpldfoifkaaCbA
import Derived.Test.YtilclpldfoifkaaCbS
import Derived.Test.YtilclpldfoifkaaCbM
import Derived.Test.YtilclpldfoifkaaCbD
import Derived.Test.YtilclpldfoifkaaAw5
import Derived.Deep.DeepCutAuto
import Derived.Deep.CutBlock
namespace Go.Proofs.Ytilclpldfoifkaa
open Go.RowKit Encl
theorem onR2_of {F : Rc → Rc → Out Rc} {x y : Rc} (hx : okR x = true) (hy : okR y = true) : onR2 F x y = F x y := by
  unfold onR2
  rw [if_pos (by rw [two_iff, hx, hy]; rfl)]
theorem grow_of {F : Rc → Rc → Out Rc} {x y p q : Rc} (hx : (insideS x p).1 = true) (hy : (insideS y q).1 = true)
    (hm : ∀ b, F p q = .ok b → ∃ a, F x y = .ok a ∧ InR a b) (hk : ∀ x y a, F x y = .ok a → okR a = true) (h0 : ∀ x y, Ne0 (F x y)) :
    (∃ a1 a2 a3 a4 b1 b2 b3 b4 : Int, OutR (onR2 F x y) = .returned (.tuple #[.agg #[.int .i64 a1, .int .i64 a2, .int .i64 a3, .int .i64 a4], .int .i64 0]) ∧ OutR (onR2 F p q) = .returned (.tuple #[.agg #[.int .i64 b1, .int .i64 b2, .int .i64 b3, .int .i64 b4], .int .i64 0]) ∧ (insideS ⟨⟨a1, a2⟩, ⟨a3, a4⟩⟩ ⟨⟨b1, b2⟩, ⟨b3, b4⟩⟩).1 = true) ∨
    (∃ a1 a2 a3 a4 b1 b2 b3 b4 e k : Int, OutR (onR2 F x y) = .returned (.tuple #[.agg #[.int .i64 a1, .int .i64 a2, .int .i64 a3, .int .i64 a4], .int .i64 e]) ∧ OutR (onR2 F p q) = .returned (.tuple #[.agg #[.int .i64 b1, .int .i64 b2, .int .i64 b3, .int .i64 b4], .int .i64 k]) ∧ ¬ k = 0) := by
  rw [inside_iff] at hx hy
  rw [onR2_of hx.1 hy.1, onR2_of hx.2.1 hy.2.1]
  cases hF : F p q with
  | ok b =>
    obtain ⟨a, ha, hab⟩ := hm b hF
    rw [ha]
    left
    exact ⟨_, _, _, _, _, _, _, _, rfl, rfl, (inside_iff _ _).2 ⟨hk _ _ _ ha, hk _ _ _ hF, hab⟩⟩
  | bad k =>
    right
    have hk0 := h0 p q k hF
    cases F x y with
    | ok a => exact ⟨_, _, _, _, _, _, _, _, _, _, rfl, rfl, hk0⟩
    | bad j => exact ⟨_, _, _, _, _, _, _, _, _, _, rfl, rfl, hk0⟩

set_option maxRecDepth 100000 in
set_option maxHeartbeats 16000000 in
theorem EncloseGrows_any (a b c d s t u v k0 k1 k2 k3 m0 m1 m2 m3 : Int) (w : World) (hk0 : 0 ≤ k0 ∧ k0 ≤ 65535) (hk1 : 0 ≤ k1 ∧ k1 ≤ 65535) (hk2 : 0 ≤ k2 ∧ k2 ≤ 65535) (hk3 : 0 ≤ k3 ∧ k3 ≤ 65535) (hm0 : 0 ≤ m0 ∧ m0 ≤ 65535) (hm1 : 0 ≤ m1 ∧ m1 ≤ 65535) (hm2 : 0 ≤ m2 ∧ m2 ≤ 65535) (hm3 : 0 ≤ m3 ∧ m3 ≤ 65535) :
    Calls Try.prog 11 #[.agg #[.int .i64 a, .int .i64 b, .int .i64 c, .int .i64 d], .agg #[.int .i64 s, .int .i64 t, .int .i64 u, .int .i64 v], .agg #[.int .u16 k0, .int .u16 k1, .int .u16 k2, .int .u16 k3], .agg #[.int .u16 m0, .int .u16 m1, .int .u16 m2, .int .u16 m3]] w fun e w' => e = .returned (.bool true) ∧ Below w.heap.size w w' := by
  obtain ⟨p1, p2, p3, p4, hp⟩ : ∃ p1 p2 p3 p4 : Int, ∀ w1 : World, Calls Try.prog 46 #[.agg #[.int .i64 a, .int .i64 b, .int .i64 c, .int .i64 d], .agg #[.int .u16 k0, .int .u16 k1, .int .u16 k2, .int .u16 k3]] w1 fun e w' => e = .returned (.agg #[.int .i64 p1, .int .i64 p2, .int .i64 p3, .int .i64 p4]) ∧ Below w1.heap.size w1 w' := ⟨_, _, _, _, fun w1 => widerL_any a b c d k0 k1 k2 k3 w1 hk0 hk1 hk2 hk3⟩
  obtain ⟨q1, q2, q3, q4, hq⟩ : ∃ p1 p2 p3 p4 : Int, ∀ w1 : World, Calls Try.prog 46 #[.agg #[.int .i64 s, .int .i64 t, .int .i64 u, .int .i64 v], .agg #[.int .u16 m0, .int .u16 m1, .int .u16 m2, .int .u16 m3]] w1 fun e w' => e = .returned (.agg #[.int .i64 p1, .int .i64 p2, .int .i64 p3, .int .i64 p4]) ∧ Below w1.heap.size w1 w' := ⟨_, _, _, _, fun w1 => widerL_any s t u v m0 m1 m2 m3 w1 hm0 hm1 hm2 hm3⟩
  have KX := Lib.hid hp
  have KY := Lib.hid hq
  clear hp hq hk0 hk1 hk2 hk3 hm0 hm1 hm2 hm3
  obtain ⟨ib1, hb1⟩ : ∃ x, (insideS ⟨⟨a, b⟩, ⟨c, d⟩⟩ ⟨⟨p1, p2⟩, ⟨p3, p4⟩⟩).1 = x := ⟨_, rfl⟩
  obtain ⟨ib2, hb2⟩ : ∃ x, (insideS ⟨⟨s, t⟩, ⟨u, v⟩⟩ ⟨⟨q1, q2⟩, ⟨q3, q4⟩⟩).1 = x := ⟨_, rfl⟩
  have HB1 := Lib.hid hb1
  have HB2 := Lib.hid hb2
  clear hb1 hb2
  go_enter Try.func11, Try.ntmps11
  go_upto_region 1 with fail
  have hb0 : Below w.heap.size w ((((w.alloc (Obj.cells #[.int .i64 a, .int .i64 b, .int .i64 c, .int .i64 d] 25)).alloc (Obj.cells #[.int .i64 s, .int .i64 t, .int .i64 u, .int .i64 v] 25)).alloc (Obj.cells #[.int .u16 k0, .int .u16 k1, .int .u16 k2, .int .u16 k3] 58)).alloc (Obj.cells #[.int .u16 m0, .int .u16 m1, .int .u16 m2, .int .u16 m3] 58)) := by go_grown
  have c00 : ((((w.alloc (Obj.cells #[.int .i64 a, .int .i64 b, .int .i64 c, .int .i64 d] 25)).alloc (Obj.cells #[.int .i64 s, .int .i64 t, .int .i64 u, .int .i64 v] 25)).alloc (Obj.cells #[.int .u16 k0, .int .u16 k1, .int .u16 k2, .int .u16 k3] 58)).alloc (Obj.cells #[.int .u16 m0, .int .u16 m1, .int .u16 m2, .int .u16 m3] 58)).cell? ⟨w.heap.size, 0, none⟩ = some (.int .i64 a) := by go_cell
  have c01 : ((((w.alloc (Obj.cells #[.int .i64 a, .int .i64 b, .int .i64 c, .int .i64 d] 25)).alloc (Obj.cells #[.int .i64 s, .int .i64 t, .int .i64 u, .int .i64 v] 25)).alloc (Obj.cells #[.int .u16 k0, .int .u16 k1, .int .u16 k2, .int .u16 k3] 58)).alloc (Obj.cells #[.int .u16 m0, .int .u16 m1, .int .u16 m2, .int .u16 m3] 58)).cell? ⟨w.heap.size, 1, none⟩ = some (.int .i64 b) := by go_cell
  have c02 : ((((w.alloc (Obj.cells #[.int .i64 a, .int .i64 b, .int .i64 c, .int .i64 d] 25)).alloc (Obj.cells #[.int .i64 s, .int .i64 t, .int .i64 u, .int .i64 v] 25)).alloc (Obj.cells #[.int .u16 k0, .int .u16 k1, .int .u16 k2, .int .u16 k3] 58)).alloc (Obj.cells #[.int .u16 m0, .int .u16 m1, .int .u16 m2, .int .u16 m3] 58)).cell? ⟨w.heap.size, 2, none⟩ = some (.int .i64 c) := by go_cell
  have c03 : ((((w.alloc (Obj.cells #[.int .i64 a, .int .i64 b, .int .i64 c, .int .i64 d] 25)).alloc (Obj.cells #[.int .i64 s, .int .i64 t, .int .i64 u, .int .i64 v] 25)).alloc (Obj.cells #[.int .u16 k0, .int .u16 k1, .int .u16 k2, .int .u16 k3] 58)).alloc (Obj.cells #[.int .u16 m0, .int .u16 m1, .int .u16 m2, .int .u16 m3] 58)).cell? ⟨w.heap.size, 3, none⟩ = some (.int .i64 d) := by go_cell
  have c10 : ((((w.alloc (Obj.cells #[.int .i64 a, .int .i64 b, .int .i64 c, .int .i64 d] 25)).alloc (Obj.cells #[.int .i64 s, .int .i64 t, .int .i64 u, .int .i64 v] 25)).alloc (Obj.cells #[.int .u16 k0, .int .u16 k1, .int .u16 k2, .int .u16 k3] 58)).alloc (Obj.cells #[.int .u16 m0, .int .u16 m1, .int .u16 m2, .int .u16 m3] 58)).cell? ⟨w.heap.size + 1, 0, none⟩ = some (.int .i64 s) := by go_cell
  have c11 : ((((w.alloc (Obj.cells #[.int .i64 a, .int .i64 b, .int .i64 c, .int .i64 d] 25)).alloc (Obj.cells #[.int .i64 s, .int .i64 t, .int .i64 u, .int .i64 v] 25)).alloc (Obj.cells #[.int .u16 k0, .int .u16 k1, .int .u16 k2, .int .u16 k3] 58)).alloc (Obj.cells #[.int .u16 m0, .int .u16 m1, .int .u16 m2, .int .u16 m3] 58)).cell? ⟨w.heap.size + 1, 1, none⟩ = some (.int .i64 t) := by go_cell
  have c12 : ((((w.alloc (Obj.cells #[.int .i64 a, .int .i64 b, .int .i64 c, .int .i64 d] 25)).alloc (Obj.cells #[.int .i64 s, .int .i64 t, .int .i64 u, .int .i64 v] 25)).alloc (Obj.cells #[.int .u16 k0, .int .u16 k1, .int .u16 k2, .int .u16 k3] 58)).alloc (Obj.cells #[.int .u16 m0, .int .u16 m1, .int .u16 m2, .int .u16 m3] 58)).cell? ⟨w.heap.size + 1, 2, none⟩ = some (.int .i64 u) := by go_cell
  have c13 : ((((w.alloc (Obj.cells #[.int .i64 a, .int .i64 b, .int .i64 c, .int .i64 d] 25)).alloc (Obj.cells #[.int .i64 s, .int .i64 t, .int .i64 u, .int .i64 v] 25)).alloc (Obj.cells #[.int .u16 k0, .int .u16 k1, .int .u16 k2, .int .u16 k3] 58)).alloc (Obj.cells #[.int .u16 m0, .int .u16 m1, .int .u16 m2, .int .u16 m3] 58)).cell? ⟨w.heap.size + 1, 3, none⟩ = some (.int .i64 v) := by go_cell
  have c20 : ((((w.alloc (Obj.cells #[.int .i64 a, .int .i64 b, .int .i64 c, .int .i64 d] 25)).alloc (Obj.cells #[.int .i64 s, .int .i64 t, .int .i64 u, .int .i64 v] 25)).alloc (Obj.cells #[.int .u16 k0, .int .u16 k1, .int .u16 k2, .int .u16 k3] 58)).alloc (Obj.cells #[.int .u16 m0, .int .u16 m1, .int .u16 m2, .int .u16 m3] 58)).cell? ⟨w.heap.size + 1 + 1, 0, none⟩ = some (.int .u16 k0) := by go_cell
  have c21 : ((((w.alloc (Obj.cells #[.int .i64 a, .int .i64 b, .int .i64 c, .int .i64 d] 25)).alloc (Obj.cells #[.int .i64 s, .int .i64 t, .int .i64 u, .int .i64 v] 25)).alloc (Obj.cells #[.int .u16 k0, .int .u16 k1, .int .u16 k2, .int .u16 k3] 58)).alloc (Obj.cells #[.int .u16 m0, .int .u16 m1, .int .u16 m2, .int .u16 m3] 58)).cell? ⟨w.heap.size + 1 + 1, 1, none⟩ = some (.int .u16 k1) := by go_cell
  have c22 : ((((w.alloc (Obj.cells #[.int .i64 a, .int .i64 b, .int .i64 c, .int .i64 d] 25)).alloc (Obj.cells #[.int .i64 s, .int .i64 t, .int .i64 u, .int .i64 v] 25)).alloc (Obj.cells #[.int .u16 k0, .int .u16 k1, .int .u16 k2, .int .u16 k3] 58)).alloc (Obj.cells #[.int .u16 m0, .int .u16 m1, .int .u16 m2, .int .u16 m3] 58)).cell? ⟨w.heap.size + 1 + 1, 2, none⟩ = some (.int .u16 k2) := by go_cell
  have c23 : ((((w.alloc (Obj.cells #[.int .i64 a, .int .i64 b, .int .i64 c, .int .i64 d] 25)).alloc (Obj.cells #[.int .i64 s, .int .i64 t, .int .i64 u, .int .i64 v] 25)).alloc (Obj.cells #[.int .u16 k0, .int .u16 k1, .int .u16 k2, .int .u16 k3] 58)).alloc (Obj.cells #[.int .u16 m0, .int .u16 m1, .int .u16 m2, .int .u16 m3] 58)).cell? ⟨w.heap.size + 1 + 1, 3, none⟩ = some (.int .u16 k3) := by go_cell
  have c30 : ((((w.alloc (Obj.cells #[.int .i64 a, .int .i64 b, .int .i64 c, .int .i64 d] 25)).alloc (Obj.cells #[.int .i64 s, .int .i64 t, .int .i64 u, .int .i64 v] 25)).alloc (Obj.cells #[.int .u16 k0, .int .u16 k1, .int .u16 k2, .int .u16 k3] 58)).alloc (Obj.cells #[.int .u16 m0, .int .u16 m1, .int .u16 m2, .int .u16 m3] 58)).cell? ⟨w.heap.size + 1 + 1 + 1, 0, none⟩ = some (.int .u16 m0) := by go_cell
  have c31 : ((((w.alloc (Obj.cells #[.int .i64 a, .int .i64 b, .int .i64 c, .int .i64 d] 25)).alloc (Obj.cells #[.int .i64 s, .int .i64 t, .int .i64 u, .int .i64 v] 25)).alloc (Obj.cells #[.int .u16 k0, .int .u16 k1, .int .u16 k2, .int .u16 k3] 58)).alloc (Obj.cells #[.int .u16 m0, .int .u16 m1, .int .u16 m2, .int .u16 m3] 58)).cell? ⟨w.heap.size + 1 + 1 + 1, 1, none⟩ = some (.int .u16 m1) := by go_cell
  have c32 : ((((w.alloc (Obj.cells #[.int .i64 a, .int .i64 b, .int .i64 c, .int .i64 d] 25)).alloc (Obj.cells #[.int .i64 s, .int .i64 t, .int .i64 u, .int .i64 v] 25)).alloc (Obj.cells #[.int .u16 k0, .int .u16 k1, .int .u16 k2, .int .u16 k3] 58)).alloc (Obj.cells #[.int .u16 m0, .int .u16 m1, .int .u16 m2, .int .u16 m3] 58)).cell? ⟨w.heap.size + 1 + 1 + 1, 2, none⟩ = some (.int .u16 m2) := by go_cell
  have c33 : ((((w.alloc (Obj.cells #[.int .i64 a, .int .i64 b, .int .i64 c, .int .i64 d] 25)).alloc (Obj.cells #[.int .i64 s, .int .i64 t, .int .i64 u, .int .i64 v] 25)).alloc (Obj.cells #[.int .u16 k0, .int .u16 k1, .int .u16 k2, .int .u16 k3] 58)).alloc (Obj.cells #[.int .u16 m0, .int .u16 m1, .int .u16 m2, .int .u16 m3] 58)).cell? ⟨w.heap.size + 1 + 1 + 1, 3, none⟩ = some (.int .u16 m3) := by go_cell
  have hsz : w.heap.size + 1 + 1 + 1 < ((((w.alloc (Obj.cells #[.int .i64 a, .int .i64 b, .int .i64 c, .int .i64 d] 25)).alloc (Obj.cells #[.int .i64 s, .int .i64 t, .int .i64 u, .int .i64 v] 25)).alloc (Obj.cells #[.int .u16 k0, .int .u16 k1, .int .u16 k2, .int .u16 k3] 58)).alloc (Obj.cells #[.int .u16 m0, .int .u16 m1, .int .u16 m2, .int .u16 m3] 58)).heap.size := by simp
  generalize ((((w.alloc (Obj.cells #[.int .i64 a, .int .i64 b, .int .i64 c, .int .i64 d] 25)).alloc (Obj.cells #[.int .i64 s, .int .i64 t, .int .i64 u, .int .i64 v] 25)).alloc (Obj.cells #[.int .u16 k0, .int .u16 k1, .int .u16 k2, .int .u16 k3] 58)).alloc (Obj.cells #[.int .u16 m0, .int .u16 m1, .int .u16 m2, .int .u16 m3] 58)) = W at *
  have HB0 := Lib.hid hb0
  have HD : Below W.heap.size W W := Below.refl _ _
  have G0 : Hid (∀ w', Below W.heap.size W w' → w'.cell? ⟨w.heap.size, 0, none⟩ = some (.int .i64 a) ∧ w'.cell? ⟨w.heap.size, 1, none⟩ = some (.int .i64 b) ∧ w'.cell? ⟨w.heap.size, 2, none⟩ = some (.int .i64 c) ∧ w'.cell? ⟨w.heap.size, 3, none⟩ = some (.int .i64 d) ∧ w'.cell? ⟨w.heap.size + 1, 0, none⟩ = some (.int .i64 s) ∧ w'.cell? ⟨w.heap.size + 1, 1, none⟩ = some (.int .i64 t) ∧ w'.cell? ⟨w.heap.size + 1, 2, none⟩ = some (.int .i64 u) ∧ w'.cell? ⟨w.heap.size + 1, 3, none⟩ = some (.int .i64 v) ∧ w'.cell? ⟨w.heap.size + 1 + 1, 0, none⟩ = some (.int .u16 k0) ∧ w'.cell? ⟨w.heap.size + 1 + 1, 1, none⟩ = some (.int .u16 k1) ∧ w'.cell? ⟨w.heap.size + 1 + 1, 2, none⟩ = some (.int .u16 k2) ∧ w'.cell? ⟨w.heap.size + 1 + 1, 3, none⟩ = some (.int .u16 k3) ∧ w'.cell? ⟨w.heap.size + 1 + 1 + 1, 0, none⟩ = some (.int .u16 m0) ∧ w'.cell? ⟨w.heap.size + 1 + 1 + 1, 1, none⟩ = some (.int .u16 m1) ∧ w'.cell? ⟨w.heap.size + 1 + 1 + 1, 2, none⟩ = some (.int .u16 m2) ∧ w'.cell? ⟨w.heap.size + 1 + 1 + 1, 3, none⟩ = some (.int .u16 m3)) := Lib.hid (fun w' hb => ⟨(hb.cell (p := ⟨w.heap.size, 0, none⟩) (by simp only; omega)).trans c00, (hb.cell (p := ⟨w.heap.size, 1, none⟩) (by simp only; omega)).trans c01, (hb.cell (p := ⟨w.heap.size, 2, none⟩) (by simp only; omega)).trans c02, (hb.cell (p := ⟨w.heap.size, 3, none⟩) (by simp only; omega)).trans c03, (hb.cell (p := ⟨w.heap.size + 1, 0, none⟩) (by simp only; omega)).trans c10, (hb.cell (p := ⟨w.heap.size + 1, 1, none⟩) (by simp only; omega)).trans c11, (hb.cell (p := ⟨w.heap.size + 1, 2, none⟩) (by simp only; omega)).trans c12, (hb.cell (p := ⟨w.heap.size + 1, 3, none⟩) (by simp only; omega)).trans c13, (hb.cell (p := ⟨w.heap.size + 1 + 1, 0, none⟩) (by simp only; omega)).trans c20, (hb.cell (p := ⟨w.heap.size + 1 + 1, 1, none⟩) (by simp only; omega)).trans c21, (hb.cell (p := ⟨w.heap.size + 1 + 1, 2, none⟩) (by simp only; omega)).trans c22, (hb.cell (p := ⟨w.heap.size + 1 + 1, 3, none⟩) (by simp only; omega)).trans c23, (hb.cell (p := ⟨w.heap.size + 1 + 1 + 1, 0, none⟩) (by simp only; omega)).trans c30, (hb.cell (p := ⟨w.heap.size + 1 + 1 + 1, 1, none⟩) (by simp only; omega)).trans c31, (hb.cell (p := ⟨w.heap.size + 1 + 1 + 1, 2, none⟩) (by simp only; omega)).trans c32, (hb.cell (p := ⟨w.heap.size + 1 + 1 + 1, 3, none⟩) (by simp only; omega)).trans c33⟩)
  clear hb0 c00 c01 c02 c03 c10 c11 c12 c13 c20 c21 c22 c23 c30 c31 c32 c33
  go_cut [9, 10] (fun v9 v10 wx => ∃ b9 b10 : Nat, v9 = .pointer (some ⟨b9, 0, none⟩) ∧ v10 = .pointer (some ⟨b10, 0, none⟩) ∧ W.heap.size ≤ b9 ∧ W.heap.size ≤ b10 ∧ b9 < wx.heap.size ∧ b10 < wx.heap.size ∧ wx.cell? ⟨b9, 0, none⟩ = some (.int .i64 p1) ∧ wx.cell? ⟨b9, 1, none⟩ = some (.int .i64 p2) ∧ wx.cell? ⟨b9, 2, none⟩ = some (.int .i64 p3) ∧ wx.cell? ⟨b9, 3, none⟩ = some (.int .i64 p4) ∧ wx.cell? ⟨b10, 0, none⟩ = some (.int .i64 q1) ∧ wx.cell? ⟨b10, 1, none⟩ = some (.int .i64 q2) ∧ wx.cell? ⟨b10, 2, none⟩ = some (.int .i64 q3) ∧ wx.cell? ⟨b10, 3, none⟩ = some (.int .i64 q4) ∧ Below W.heap.size W wx)
  case first =>
    have HD1 : Below W.heap.size W W.drew := HD.drew
    refine wp_region_held_drew (S := fun w' => w'.cell? ⟨w.heap.size, 0, none⟩ = some (.int .i64 a) ∧ w'.cell? ⟨w.heap.size, 1, none⟩ = some (.int .i64 b) ∧ w'.cell? ⟨w.heap.size, 2, none⟩ = some (.int .i64 c) ∧ w'.cell? ⟨w.heap.size, 3, none⟩ = some (.int .i64 d) ∧ w'.cell? ⟨w.heap.size + 1, 0, none⟩ = some (.int .i64 s) ∧ w'.cell? ⟨w.heap.size + 1, 1, none⟩ = some (.int .i64 t) ∧ w'.cell? ⟨w.heap.size + 1, 2, none⟩ = some (.int .i64 u) ∧ w'.cell? ⟨w.heap.size + 1, 3, none⟩ = some (.int .i64 v) ∧ w'.cell? ⟨w.heap.size + 1 + 1, 0, none⟩ = some (.int .u16 k0) ∧ w'.cell? ⟨w.heap.size + 1 + 1, 1, none⟩ = some (.int .u16 k1) ∧ w'.cell? ⟨w.heap.size + 1 + 1, 2, none⟩ = some (.int .u16 k2) ∧ w'.cell? ⟨w.heap.size + 1 + 1, 3, none⟩ = some (.int .u16 k3) ∧ w'.cell? ⟨w.heap.size + 1 + 1 + 1, 0, none⟩ = some (.int .u16 m0) ∧ w'.cell? ⟨w.heap.size + 1 + 1 + 1, 1, none⟩ = some (.int .u16 m1) ∧ w'.cell? ⟨w.heap.size + 1 + 1 + 1, 2, none⟩ = some (.int .u16 m2) ∧ w'.cell? ⟨w.heap.size + 1 + 1 + 1, 3, none⟩ = some (.int .u16 m3)) (by kernel_rfl) (G0.out _ HD1) (fun hHeld => ?_)
    refine wpAnyH_take (i := 0) (oi := _) (v := ?_) rfl (by kernel_rfl) (by kernel_rfl) (by kernel_rfl) (fun _ _ _ h => h) (Or.inl ⟨by rfl, ?_⟩) (by assumption) ?_
    rotate_left
    · intro w hSw; obtain ⟨_, _, _, _, _, _, _, _, _, _, _, _, _, _, _, _⟩ := hSw; go_simp; (try with_reducible rfl)
    try change wpAnyH _ _ _ _ _ _ _ (Act.put _ (some 17) _) _
    try simp only [act_all]
    refine wpAnyH_take (i := 1) (oi := _) (v := ?_) rfl (by kernel_rfl) (by kernel_rfl) (by kernel_rfl) (fun _ _ _ h => h) (Or.inl ⟨by rfl, ?_⟩) (by assumption) ?_
    rotate_left
    · intro w hSw; obtain ⟨_, _, _, _, _, _, _, _, _, _, _, _, _, _, _, _⟩ := hSw; go_simp; (try with_reducible rfl)
    try change wpAnyH _ _ _ _ _ _ _ (Act.put _ (some 18) _) _
    try simp only [act_all]
    refine wpAnyH_take (i := 3) (oi := _) (v := ?_) rfl (by kernel_rfl) (by kernel_rfl) (by kernel_rfl) (fun _ _ _ h => h) (Or.inl ⟨by rfl, ?_⟩) (by assumption) ?_
    rotate_left
    · intro w hSw; obtain ⟨_, _, _, _, _, _, _, _, _, _, _, _, _, _, _, _⟩ := hSw; go_simp; (try with_reducible rfl)
    try change wpAnyH _ _ _ _ _ _ _ (Act.put _ (some 20) _) _
    try simp only [act_all]
    refine wpAnyH_take (i := 4) (oi := _) (v := ?_) rfl (by kernel_rfl) (by kernel_rfl) (by kernel_rfl) (fun _ _ _ h => h) (Or.inl ⟨by rfl, ?_⟩) (by assumption) ?_
    rotate_left
    · intro w hSw; obtain ⟨_, _, _, _, _, _, _, _, _, _, _, _, _, _, _, _⟩ := hSw; go_simp; (try with_reducible rfl)
    try change wpAnyH _ _ _ _ _ _ _ (Act.put _ (some 21) _) _
    try simp only [act_all]
    refine wpAnyH_ready (rs := [2, 6, 7]) (by kernel_rfl) (by simp) ?_
    refine AllReadyH.cons (o := _) rfl (fun K hK => ?_) ?_
    · go_simp
      refine (KX.out _).mono ?_
      rintro e w2 ⟨he, hb⟩
      have HD2 : Below W.heap.size W w2 := Below.trans HD1 (hb.mono HD1.size)
      have hz2 := HD2.size
      have DA2 := HB0.out.trans (HD2.mono (show w.heap.size ≤ W.heap.size by omega))
      clear hb hHeld
      obtain rfl : e = .returned (.agg #[.int .i64 p1, .int .i64 p2, .int .i64 p3, .int .i64 p4]) := he
      refine hK.out _ _ (G0.out _ HD2) (fun hHeld => ?_)
      clear hK K
      try simp only [act_all]
      refine wpAnyH_ready (rs := [5, 6, 7]) (by kernel_rfl) (by simp) ?_
      refine AllReadyH.cons (o := _) rfl (fun K hK => ?_) ?_
      · go_simp
        refine (KY.out _).mono ?_
        rintro e w3 ⟨he, hb⟩
        have HD3 : Below W.heap.size W w3 := Below.trans HD2 (hb.mono HD2.size)
        have hz3 := HD3.size
        have DA3 := HB0.out.trans (HD3.mono (show w.heap.size ≤ W.heap.size by omega))
        clear hb hHeld
        obtain rfl : e = .returned (.agg #[.int .i64 q1, .int .i64 q2, .int .i64 q3, .int .i64 q4]) := he
        refine hK.out _ _ (G0.out _ HD3) (fun hHeld => ?_)
        clear hK K
        try simp only [act_all]
        refine wpAnyH_ready (rs := [6, 7]) (by kernel_rfl) (by simp) ?_
        refine AllReadyH.cons (o := _) rfl (fun K hK => ?_) ?_
        · have HD4 : Below W.heap.size W (w3.alloc (Obj.cells #[.int .i64 0, .int .i64 0, .int .i64 0, .int .i64 0] 25)) := bal HD3 _
          go_simp
          refine hK.out _ _ (G0.out _ HD4) (fun hHeld => ?_)
          clear hK K
          try simp only [act_all]
          refine wpAnyH_ready (rs := [7]) (by kernel_rfl) (by simp) ?_
          refine AllReadyH.cons (o := _) rfl (fun K hK => ?_) AllReadyH.nil
          have HD5 : Below W.heap.size W ((w3.alloc (Obj.cells #[.int .i64 0, .int .i64 0, .int .i64 0, .int .i64 0] 25)).alloc (Obj.cells #[.int .i64 0, .int .i64 0, .int .i64 0, .int .i64 0] 25)) := bal HD4 _
          go_simp
          refine hK.out _ _ (G0.out _ HD5) (fun hHeld => ?_)
          clear hK K
          try simp only [act_all]
          refine wpAnyH_ready (rs := [8]) (by kernel_rfl) (by simp) ?_
          refine AllReadyH.cons (o := _) rfl (fun K hK => ?_) AllReadyH.nil
          obtain ⟨_, _, _, _, _, _, _, _, _, _, _, _, _, _, _, _⟩ := G0.out _ HD3
          have nb0 : w.heap.size < w3.heap.size := by omega
          have nx00 : ¬ w3.heap.size = w.heap.size := by omega
          have nx01 : ¬ w3.heap.size + 1 = w.heap.size := by omega
          have nb1 : w.heap.size + 1 < w3.heap.size := by omega
          have nx10 : ¬ w3.heap.size = w.heap.size + 1 := by omega
          have nx11 : ¬ w3.heap.size + 1 = w.heap.size + 1 := by omega
          have nb2 : w.heap.size + 1 + 1 < w3.heap.size := by omega
          have nx20 : ¬ w3.heap.size = w.heap.size + 1 + 1 := by omega
          have nx21 : ¬ w3.heap.size + 1 = w.heap.size + 1 + 1 := by omega
          have nb3 : w.heap.size + 1 + 1 + 1 < w3.heap.size := by omega
          have nx30 : ¬ w3.heap.size = w.heap.size + 1 + 1 + 1 := by omega
          have nx31 : ¬ w3.heap.size + 1 = w.heap.size + 1 + 1 + 1 := by omega
          have ny : ¬ w3.heap.size = w3.heap.size + 1 := by omega
          have ny' : ¬ w3.heap.size + 1 = w3.heap.size := by omega
          go_simp
          refine hK.out _ _ (by refine ⟨?_, ?_, ?_, ?_, ?_, ?_, ?_, ?_, ?_, ?_, ?_, ?_, ?_, ?_, ?_, ?_⟩ <;> go_cell) (fun hHeld => ?_)
          clear hK K
          try simp only [act_all]
          refine wpAnyH_ready (rs := [9]) (by kernel_rfl) (by simp) ?_
          refine AllReadyH.cons (o := _) rfl (fun K hK => ?_) AllReadyH.nil
          go_simp
          refine hK.out _ _ (by refine ⟨?_, ?_, ?_, ?_, ?_, ?_, ?_, ?_, ?_, ?_, ?_, ?_, ?_, ?_, ?_, ?_⟩ <;> go_cell) (fun hHeld => ?_)
          clear hK K
          try simp only [act_all]
          refine wpAnyH_done (by kernel_rfl) ?_ _
          have DLL := HD3
          go_wp2_with fail
          go_meet
          refine ⟨w3.heap.size, w3.heap.size + 1, rfl, rfl, ?_, ?_, ?_, ?_, ?_, ?_, ?_, ?_, ?_, ?_, ?_, ?_, ?_⟩
          all_goals first | (go_cell; done) | omega | (simp; done) | (simp; omega) | go_grown
        refine AllReadyH.cons (o := _) rfl (fun K hK => ?_) AllReadyH.nil
        have HD6 : Below W.heap.size W (w3.alloc (Obj.cells #[.int .i64 0, .int .i64 0, .int .i64 0, .int .i64 0] 25)) := bal HD3 _
        go_simp
        refine hK.out _ _ (G0.out _ HD6) (fun hHeld => ?_)
        clear hK K
        try simp only [act_all]
        refine wpAnyH_ready (rs := [6]) (by kernel_rfl) (by simp) ?_
        refine AllReadyH.cons (o := _) rfl (fun K hK => ?_) AllReadyH.nil
        have HD7 : Below W.heap.size W ((w3.alloc (Obj.cells #[.int .i64 0, .int .i64 0, .int .i64 0, .int .i64 0] 25)).alloc (Obj.cells #[.int .i64 0, .int .i64 0, .int .i64 0, .int .i64 0] 25)) := bal HD6 _
        go_simp
        refine hK.out _ _ (G0.out _ HD7) (fun hHeld => ?_)
        clear hK K
        try simp only [act_all]
        refine wpAnyH_ready (rs := [8]) (by kernel_rfl) (by simp) ?_
        refine AllReadyH.cons (o := _) rfl (fun K hK => ?_) AllReadyH.nil
        obtain ⟨_, _, _, _, _, _, _, _, _, _, _, _, _, _, _, _⟩ := G0.out _ HD3
        have nb0 : w.heap.size < w3.heap.size := by omega
        have nx00 : ¬ w3.heap.size = w.heap.size := by omega
        have nx01 : ¬ w3.heap.size + 1 = w.heap.size := by omega
        have nb1 : w.heap.size + 1 < w3.heap.size := by omega
        have nx10 : ¬ w3.heap.size = w.heap.size + 1 := by omega
        have nx11 : ¬ w3.heap.size + 1 = w.heap.size + 1 := by omega
        have nb2 : w.heap.size + 1 + 1 < w3.heap.size := by omega
        have nx20 : ¬ w3.heap.size = w.heap.size + 1 + 1 := by omega
        have nx21 : ¬ w3.heap.size + 1 = w.heap.size + 1 + 1 := by omega
        have nb3 : w.heap.size + 1 + 1 + 1 < w3.heap.size := by omega
        have nx30 : ¬ w3.heap.size = w.heap.size + 1 + 1 + 1 := by omega
        have nx31 : ¬ w3.heap.size + 1 = w.heap.size + 1 + 1 + 1 := by omega
        have ny : ¬ w3.heap.size = w3.heap.size + 1 := by omega
        have ny' : ¬ w3.heap.size + 1 = w3.heap.size := by omega
        go_simp
        refine hK.out _ _ (by refine ⟨?_, ?_, ?_, ?_, ?_, ?_, ?_, ?_, ?_, ?_, ?_, ?_, ?_, ?_, ?_, ?_⟩ <;> go_cell) (fun hHeld => ?_)
        clear hK K
        try simp only [act_all]
        refine wpAnyH_ready (rs := [9]) (by kernel_rfl) (by simp) ?_
        refine AllReadyH.cons (o := _) rfl (fun K hK => ?_) AllReadyH.nil
        go_simp
        refine hK.out _ _ (by refine ⟨?_, ?_, ?_, ?_, ?_, ?_, ?_, ?_, ?_, ?_, ?_, ?_, ?_, ?_, ?_, ?_⟩ <;> go_cell) (fun hHeld => ?_)
        clear hK K
        try simp only [act_all]
        refine wpAnyH_done (by kernel_rfl) ?_ _
        have DLL := HD3
        go_wp2_with fail
        go_meet
        refine ⟨w3.heap.size + 1, w3.heap.size, rfl, rfl, ?_, ?_, ?_, ?_, ?_, ?_, ?_, ?_, ?_, ?_, ?_, ?_, ?_⟩
        all_goals first | (go_cell; done) | omega | (simp; done) | (simp; omega) | go_grown
      refine AllReadyH.cons (o := _) rfl (fun K hK => ?_) ?_
      · have HD8 : Below W.heap.size W (w2.alloc (Obj.cells #[.int .i64 0, .int .i64 0, .int .i64 0, .int .i64 0] 25)) := bal HD2 _
        go_simp
        refine hK.out _ _ (G0.out _ HD8) (fun hHeld => ?_)
        clear hK K
        try simp only [act_all]
        refine wpAnyH_ready (rs := [5, 7]) (by kernel_rfl) (by simp) ?_
        refine AllReadyH.cons (o := _) rfl (fun K hK => ?_) ?_
        · go_simp
          refine (KY.out _).mono ?_
          rintro e w9 ⟨he, hb⟩
          have HD9 : Below W.heap.size W w9 := Below.trans HD8 (hb.mono HD8.size)
          have hz9 := HD9.size
          have DA9 := HB0.out.trans (HD9.mono (show w.heap.size ≤ W.heap.size by omega))
          have t9_0_0 := (hb.cell (p := ⟨w2.heap.size, 0, none⟩) (by first | omega | (simp; done) | (simp; omega))).trans (by go_cell : _ = some (.int .i64 0))
          have z9_0_0 := (hb.frozen (p := ⟨w2.heap.size, 0, none⟩) (by first | omega | (simp; done) | (simp; omega))).trans (by go_cell : _ = false)
          have t9_0_1 := (hb.cell (p := ⟨w2.heap.size, 1, none⟩) (by first | omega | (simp; done) | (simp; omega))).trans (by go_cell : _ = some (.int .i64 0))
          have z9_0_1 := (hb.frozen (p := ⟨w2.heap.size, 1, none⟩) (by first | omega | (simp; done) | (simp; omega))).trans (by go_cell : _ = false)
          have t9_0_2 := (hb.cell (p := ⟨w2.heap.size, 2, none⟩) (by first | omega | (simp; done) | (simp; omega))).trans (by go_cell : _ = some (.int .i64 0))
          have z9_0_2 := (hb.frozen (p := ⟨w2.heap.size, 2, none⟩) (by first | omega | (simp; done) | (simp; omega))).trans (by go_cell : _ = false)
          have t9_0_3 := (hb.cell (p := ⟨w2.heap.size, 3, none⟩) (by first | omega | (simp; done) | (simp; omega))).trans (by go_cell : _ = some (.int .i64 0))
          have z9_0_3 := (hb.frozen (p := ⟨w2.heap.size, 3, none⟩) (by first | omega | (simp; done) | (simp; omega))).trans (by go_cell : _ = false)
          have l9_0 : w2.heap.size < w9.heap.size := by have hs := hb.size; (try simp at hs); omega
          clear hb hHeld
          obtain rfl : e = .returned (.agg #[.int .i64 q1, .int .i64 q2, .int .i64 q3, .int .i64 q4]) := he
          refine hK.out _ _ (G0.out _ HD9) (fun hHeld => ?_)
          clear hK K
          try simp only [act_all]
          refine wpAnyH_ready (rs := [7]) (by kernel_rfl) (by simp) ?_
          refine AllReadyH.cons (o := _) rfl (fun K hK => ?_) AllReadyH.nil
          have HD10 : Below W.heap.size W (w9.alloc (Obj.cells #[.int .i64 0, .int .i64 0, .int .i64 0, .int .i64 0] 25)) := bal HD9 _
          go_simp
          refine hK.out _ _ (G0.out _ HD10) (fun hHeld => ?_)
          clear hK K
          try simp only [act_all]
          refine wpAnyH_ready (rs := [8]) (by kernel_rfl) (by simp) ?_
          refine AllReadyH.cons (o := _) rfl (fun K hK => ?_) AllReadyH.nil
          obtain ⟨_, _, _, _, _, _, _, _, _, _, _, _, _, _, _, _⟩ := G0.out _ HD9
          have nb0 : w.heap.size < w9.heap.size := by omega
          have nx00 : ¬ w2.heap.size = w.heap.size := by omega
          have nx01 : ¬ w9.heap.size = w.heap.size := by omega
          have nb1 : w.heap.size + 1 < w9.heap.size := by omega
          have nx10 : ¬ w2.heap.size = w.heap.size + 1 := by omega
          have nx11 : ¬ w9.heap.size = w.heap.size + 1 := by omega
          have nb2 : w.heap.size + 1 + 1 < w9.heap.size := by omega
          have nx20 : ¬ w2.heap.size = w.heap.size + 1 + 1 := by omega
          have nx21 : ¬ w9.heap.size = w.heap.size + 1 + 1 := by omega
          have nb3 : w.heap.size + 1 + 1 + 1 < w9.heap.size := by omega
          have nx30 : ¬ w2.heap.size = w.heap.size + 1 + 1 + 1 := by omega
          have nx31 : ¬ w9.heap.size = w.heap.size + 1 + 1 + 1 := by omega
          have ny : ¬ w2.heap.size = w9.heap.size := by omega
          have ny' : ¬ w9.heap.size = w2.heap.size := by omega
          go_simp
          refine hK.out _ _ (by refine ⟨?_, ?_, ?_, ?_, ?_, ?_, ?_, ?_, ?_, ?_, ?_, ?_, ?_, ?_, ?_, ?_⟩ <;> go_cell) (fun hHeld => ?_)
          clear hK K
          try simp only [act_all]
          refine wpAnyH_ready (rs := [9]) (by kernel_rfl) (by simp) ?_
          refine AllReadyH.cons (o := _) rfl (fun K hK => ?_) AllReadyH.nil
          go_simp
          refine hK.out _ _ (by refine ⟨?_, ?_, ?_, ?_, ?_, ?_, ?_, ?_, ?_, ?_, ?_, ?_, ?_, ?_, ?_, ?_⟩ <;> go_cell) (fun hHeld => ?_)
          clear hK K
          try simp only [act_all]
          refine wpAnyH_done (by kernel_rfl) ?_ _
          have DLL := HD9
          go_wp2_with fail
          go_meet
          refine ⟨w2.heap.size, w9.heap.size, rfl, rfl, ?_, ?_, ?_, ?_, ?_, ?_, ?_, ?_, ?_, ?_, ?_, ?_, ?_⟩
          all_goals first | (go_cell; done) | omega | (simp; done) | (simp; omega) | go_grown
        refine AllReadyH.cons (o := _) rfl (fun K hK => ?_) AllReadyH.nil
        have HD11 : Below W.heap.size W ((w2.alloc (Obj.cells #[.int .i64 0, .int .i64 0, .int .i64 0, .int .i64 0] 25)).alloc (Obj.cells #[.int .i64 0, .int .i64 0, .int .i64 0, .int .i64 0] 25)) := bal HD8 _
        go_simp
        refine hK.out _ _ (G0.out _ HD11) (fun hHeld => ?_)
        clear hK K
        try simp only [act_all]
        refine wpAnyH_ready (rs := [5]) (by kernel_rfl) (by simp) ?_
        refine AllReadyH.cons (o := _) rfl (fun K hK => ?_) AllReadyH.nil
        go_simp
        refine (KY.out _).mono ?_
        rintro e w12 ⟨he, hb⟩
        have HD12 : Below W.heap.size W w12 := Below.trans HD11 (hb.mono HD11.size)
        have hz12 := HD12.size
        have DA12 := HB0.out.trans (HD12.mono (show w.heap.size ≤ W.heap.size by omega))
        have t12_0_0 := (hb.cell (p := ⟨w2.heap.size, 0, none⟩) (by first | omega | (simp; done) | (simp; omega))).trans (by go_cell : _ = some (.int .i64 0))
        have z12_0_0 := (hb.frozen (p := ⟨w2.heap.size, 0, none⟩) (by first | omega | (simp; done) | (simp; omega))).trans (by go_cell : _ = false)
        have t12_0_1 := (hb.cell (p := ⟨w2.heap.size, 1, none⟩) (by first | omega | (simp; done) | (simp; omega))).trans (by go_cell : _ = some (.int .i64 0))
        have z12_0_1 := (hb.frozen (p := ⟨w2.heap.size, 1, none⟩) (by first | omega | (simp; done) | (simp; omega))).trans (by go_cell : _ = false)
        have t12_0_2 := (hb.cell (p := ⟨w2.heap.size, 2, none⟩) (by first | omega | (simp; done) | (simp; omega))).trans (by go_cell : _ = some (.int .i64 0))
        have z12_0_2 := (hb.frozen (p := ⟨w2.heap.size, 2, none⟩) (by first | omega | (simp; done) | (simp; omega))).trans (by go_cell : _ = false)
        have t12_0_3 := (hb.cell (p := ⟨w2.heap.size, 3, none⟩) (by first | omega | (simp; done) | (simp; omega))).trans (by go_cell : _ = some (.int .i64 0))
        have z12_0_3 := (hb.frozen (p := ⟨w2.heap.size, 3, none⟩) (by first | omega | (simp; done) | (simp; omega))).trans (by go_cell : _ = false)
        have l12_0 : w2.heap.size < w12.heap.size := by have hs := hb.size; (try simp at hs); omega
        have t12_1_0 := (hb.cell (p := ⟨w2.heap.size + 1, 0, none⟩) (by first | omega | (simp; done) | (simp; omega))).trans (by go_cell : _ = some (.int .i64 0))
        have z12_1_0 := (hb.frozen (p := ⟨w2.heap.size + 1, 0, none⟩) (by first | omega | (simp; done) | (simp; omega))).trans (by go_cell : _ = false)
        have t12_1_1 := (hb.cell (p := ⟨w2.heap.size + 1, 1, none⟩) (by first | omega | (simp; done) | (simp; omega))).trans (by go_cell : _ = some (.int .i64 0))
        have z12_1_1 := (hb.frozen (p := ⟨w2.heap.size + 1, 1, none⟩) (by first | omega | (simp; done) | (simp; omega))).trans (by go_cell : _ = false)
        have t12_1_2 := (hb.cell (p := ⟨w2.heap.size + 1, 2, none⟩) (by first | omega | (simp; done) | (simp; omega))).trans (by go_cell : _ = some (.int .i64 0))
        have z12_1_2 := (hb.frozen (p := ⟨w2.heap.size + 1, 2, none⟩) (by first | omega | (simp; done) | (simp; omega))).trans (by go_cell : _ = false)
        have t12_1_3 := (hb.cell (p := ⟨w2.heap.size + 1, 3, none⟩) (by first | omega | (simp; done) | (simp; omega))).trans (by go_cell : _ = some (.int .i64 0))
        have z12_1_3 := (hb.frozen (p := ⟨w2.heap.size + 1, 3, none⟩) (by first | omega | (simp; done) | (simp; omega))).trans (by go_cell : _ = false)
        have l12_1 : w2.heap.size + 1 < w12.heap.size := by have hs := hb.size; (try simp at hs); omega
        clear hb hHeld
        obtain rfl : e = .returned (.agg #[.int .i64 q1, .int .i64 q2, .int .i64 q3, .int .i64 q4]) := he
        refine hK.out _ _ (G0.out _ HD12) (fun hHeld => ?_)
        clear hK K
        try simp only [act_all]
        refine wpAnyH_ready (rs := [8]) (by kernel_rfl) (by simp) ?_
        refine AllReadyH.cons (o := _) rfl (fun K hK => ?_) AllReadyH.nil
        obtain ⟨_, _, _, _, _, _, _, _, _, _, _, _, _, _, _, _⟩ := G0.out _ HD12
        have nb0 : w.heap.size < w12.heap.size := by omega
        have nx00 : ¬ w2.heap.size = w.heap.size := by omega
        have nx01 : ¬ w2.heap.size + 1 = w.heap.size := by omega
        have nb1 : w.heap.size + 1 < w12.heap.size := by omega
        have nx10 : ¬ w2.heap.size = w.heap.size + 1 := by omega
        have nx11 : ¬ w2.heap.size + 1 = w.heap.size + 1 := by omega
        have nb2 : w.heap.size + 1 + 1 < w12.heap.size := by omega
        have nx20 : ¬ w2.heap.size = w.heap.size + 1 + 1 := by omega
        have nx21 : ¬ w2.heap.size + 1 = w.heap.size + 1 + 1 := by omega
        have nb3 : w.heap.size + 1 + 1 + 1 < w12.heap.size := by omega
        have nx30 : ¬ w2.heap.size = w.heap.size + 1 + 1 + 1 := by omega
        have nx31 : ¬ w2.heap.size + 1 = w.heap.size + 1 + 1 + 1 := by omega
        have ny : ¬ w2.heap.size = w2.heap.size + 1 := by omega
        have ny' : ¬ w2.heap.size + 1 = w2.heap.size := by omega
        go_simp
        refine hK.out _ _ (by refine ⟨?_, ?_, ?_, ?_, ?_, ?_, ?_, ?_, ?_, ?_, ?_, ?_, ?_, ?_, ?_, ?_⟩ <;> go_cell) (fun hHeld => ?_)
        clear hK K
        try simp only [act_all]
        refine wpAnyH_ready (rs := [9]) (by kernel_rfl) (by simp) ?_
        refine AllReadyH.cons (o := _) rfl (fun K hK => ?_) AllReadyH.nil
        go_simp
        refine hK.out _ _ (by refine ⟨?_, ?_, ?_, ?_, ?_, ?_, ?_, ?_, ?_, ?_, ?_, ?_, ?_, ?_, ?_, ?_⟩ <;> go_cell) (fun hHeld => ?_)
        clear hK K
        try simp only [act_all]
        refine wpAnyH_done (by kernel_rfl) ?_ _
        have DLL := HD12
        go_wp2_with fail
        go_meet
        refine ⟨w2.heap.size, w2.heap.size + 1, rfl, rfl, ?_, ?_, ?_, ?_, ?_, ?_, ?_, ?_, ?_, ?_, ?_, ?_, ?_⟩
        all_goals first | (go_cell; done) | omega | (simp; done) | (simp; omega) | go_grown
      refine AllReadyH.cons (o := _) rfl (fun K hK => ?_) AllReadyH.nil
      have HD13 : Below W.heap.size W (w2.alloc (Obj.cells #[.int .i64 0, .int .i64 0, .int .i64 0, .int .i64 0] 25)) := bal HD2 _
      go_simp
      refine hK.out _ _ (G0.out _ HD13) (fun hHeld => ?_)
      clear hK K
      try simp only [act_all]
      refine wpAnyH_ready (rs := [5, 6]) (by kernel_rfl) (by simp) ?_
      refine AllReadyH.cons (o := _) rfl (fun K hK => ?_) ?_
      · go_simp
        refine (KY.out _).mono ?_
        rintro e w14 ⟨he, hb⟩
        have HD14 : Below W.heap.size W w14 := Below.trans HD13 (hb.mono HD13.size)
        have hz14 := HD14.size
        have DA14 := HB0.out.trans (HD14.mono (show w.heap.size ≤ W.heap.size by omega))
        have t14_0_0 := (hb.cell (p := ⟨w2.heap.size, 0, none⟩) (by first | omega | (simp; done) | (simp; omega))).trans (by go_cell : _ = some (.int .i64 0))
        have z14_0_0 := (hb.frozen (p := ⟨w2.heap.size, 0, none⟩) (by first | omega | (simp; done) | (simp; omega))).trans (by go_cell : _ = false)
        have t14_0_1 := (hb.cell (p := ⟨w2.heap.size, 1, none⟩) (by first | omega | (simp; done) | (simp; omega))).trans (by go_cell : _ = some (.int .i64 0))
        have z14_0_1 := (hb.frozen (p := ⟨w2.heap.size, 1, none⟩) (by first | omega | (simp; done) | (simp; omega))).trans (by go_cell : _ = false)
        have t14_0_2 := (hb.cell (p := ⟨w2.heap.size, 2, none⟩) (by first | omega | (simp; done) | (simp; omega))).trans (by go_cell : _ = some (.int .i64 0))
        have z14_0_2 := (hb.frozen (p := ⟨w2.heap.size, 2, none⟩) (by first | omega | (simp; done) | (simp; omega))).trans (by go_cell : _ = false)
        have t14_0_3 := (hb.cell (p := ⟨w2.heap.size, 3, none⟩) (by first | omega | (simp; done) | (simp; omega))).trans (by go_cell : _ = some (.int .i64 0))
        have z14_0_3 := (hb.frozen (p := ⟨w2.heap.size, 3, none⟩) (by first | omega | (simp; done) | (simp; omega))).trans (by go_cell : _ = false)
        have l14_0 : w2.heap.size < w14.heap.size := by have hs := hb.size; (try simp at hs); omega
        clear hb hHeld
        obtain rfl : e = .returned (.agg #[.int .i64 q1, .int .i64 q2, .int .i64 q3, .int .i64 q4]) := he
        refine hK.out _ _ (G0.out _ HD14) (fun hHeld => ?_)
        clear hK K
        try simp only [act_all]
        refine wpAnyH_ready (rs := [6]) (by kernel_rfl) (by simp) ?_
        refine AllReadyH.cons (o := _) rfl (fun K hK => ?_) AllReadyH.nil
        have HD15 : Below W.heap.size W (w14.alloc (Obj.cells #[.int .i64 0, .int .i64 0, .int .i64 0, .int .i64 0] 25)) := bal HD14 _
        go_simp
        refine hK.out _ _ (G0.out _ HD15) (fun hHeld => ?_)
        clear hK K
        try simp only [act_all]
        refine wpAnyH_ready (rs := [8]) (by kernel_rfl) (by simp) ?_
        refine AllReadyH.cons (o := _) rfl (fun K hK => ?_) AllReadyH.nil
        obtain ⟨_, _, _, _, _, _, _, _, _, _, _, _, _, _, _, _⟩ := G0.out _ HD14
        have nb0 : w.heap.size < w14.heap.size := by omega
        have nx00 : ¬ w2.heap.size = w.heap.size := by omega
        have nx01 : ¬ w14.heap.size = w.heap.size := by omega
        have nb1 : w.heap.size + 1 < w14.heap.size := by omega
        have nx10 : ¬ w2.heap.size = w.heap.size + 1 := by omega
        have nx11 : ¬ w14.heap.size = w.heap.size + 1 := by omega
        have nb2 : w.heap.size + 1 + 1 < w14.heap.size := by omega
        have nx20 : ¬ w2.heap.size = w.heap.size + 1 + 1 := by omega
        have nx21 : ¬ w14.heap.size = w.heap.size + 1 + 1 := by omega
        have nb3 : w.heap.size + 1 + 1 + 1 < w14.heap.size := by omega
        have nx30 : ¬ w2.heap.size = w.heap.size + 1 + 1 + 1 := by omega
        have nx31 : ¬ w14.heap.size = w.heap.size + 1 + 1 + 1 := by omega
        have ny : ¬ w2.heap.size = w14.heap.size := by omega
        have ny' : ¬ w14.heap.size = w2.heap.size := by omega
        go_simp
        refine hK.out _ _ (by refine ⟨?_, ?_, ?_, ?_, ?_, ?_, ?_, ?_, ?_, ?_, ?_, ?_, ?_, ?_, ?_, ?_⟩ <;> go_cell) (fun hHeld => ?_)
        clear hK K
        try simp only [act_all]
        refine wpAnyH_ready (rs := [9]) (by kernel_rfl) (by simp) ?_
        refine AllReadyH.cons (o := _) rfl (fun K hK => ?_) AllReadyH.nil
        go_simp
        refine hK.out _ _ (by refine ⟨?_, ?_, ?_, ?_, ?_, ?_, ?_, ?_, ?_, ?_, ?_, ?_, ?_, ?_, ?_, ?_⟩ <;> go_cell) (fun hHeld => ?_)
        clear hK K
        try simp only [act_all]
        refine wpAnyH_done (by kernel_rfl) ?_ _
        have DLL := HD14
        go_wp2_with fail
        go_meet
        refine ⟨w14.heap.size, w2.heap.size, rfl, rfl, ?_, ?_, ?_, ?_, ?_, ?_, ?_, ?_, ?_, ?_, ?_, ?_, ?_⟩
        all_goals first | (go_cell; done) | omega | (simp; done) | (simp; omega) | go_grown
      refine AllReadyH.cons (o := _) rfl (fun K hK => ?_) AllReadyH.nil
      have HD16 : Below W.heap.size W ((w2.alloc (Obj.cells #[.int .i64 0, .int .i64 0, .int .i64 0, .int .i64 0] 25)).alloc (Obj.cells #[.int .i64 0, .int .i64 0, .int .i64 0, .int .i64 0] 25)) := bal HD13 _
      go_simp
      refine hK.out _ _ (G0.out _ HD16) (fun hHeld => ?_)
      clear hK K
      try simp only [act_all]
      refine wpAnyH_ready (rs := [5]) (by kernel_rfl) (by simp) ?_
      refine AllReadyH.cons (o := _) rfl (fun K hK => ?_) AllReadyH.nil
      go_simp
      refine (KY.out _).mono ?_
      rintro e w17 ⟨he, hb⟩
      have HD17 : Below W.heap.size W w17 := Below.trans HD16 (hb.mono HD16.size)
      have hz17 := HD17.size
      have DA17 := HB0.out.trans (HD17.mono (show w.heap.size ≤ W.heap.size by omega))
      have t17_0_0 := (hb.cell (p := ⟨w2.heap.size, 0, none⟩) (by first | omega | (simp; done) | (simp; omega))).trans (by go_cell : _ = some (.int .i64 0))
      have z17_0_0 := (hb.frozen (p := ⟨w2.heap.size, 0, none⟩) (by first | omega | (simp; done) | (simp; omega))).trans (by go_cell : _ = false)
      have t17_0_1 := (hb.cell (p := ⟨w2.heap.size, 1, none⟩) (by first | omega | (simp; done) | (simp; omega))).trans (by go_cell : _ = some (.int .i64 0))
      have z17_0_1 := (hb.frozen (p := ⟨w2.heap.size, 1, none⟩) (by first | omega | (simp; done) | (simp; omega))).trans (by go_cell : _ = false)
      have t17_0_2 := (hb.cell (p := ⟨w2.heap.size, 2, none⟩) (by first | omega | (simp; done) | (simp; omega))).trans (by go_cell : _ = some (.int .i64 0))
      have z17_0_2 := (hb.frozen (p := ⟨w2.heap.size, 2, none⟩) (by first | omega | (simp; done) | (simp; omega))).trans (by go_cell : _ = false)
      have t17_0_3 := (hb.cell (p := ⟨w2.heap.size, 3, none⟩) (by first | omega | (simp; done) | (simp; omega))).trans (by go_cell : _ = some (.int .i64 0))
      have z17_0_3 := (hb.frozen (p := ⟨w2.heap.size, 3, none⟩) (by first | omega | (simp; done) | (simp; omega))).trans (by go_cell : _ = false)
      have l17_0 : w2.heap.size < w17.heap.size := by have hs := hb.size; (try simp at hs); omega
      have t17_1_0 := (hb.cell (p := ⟨w2.heap.size + 1, 0, none⟩) (by first | omega | (simp; done) | (simp; omega))).trans (by go_cell : _ = some (.int .i64 0))
      have z17_1_0 := (hb.frozen (p := ⟨w2.heap.size + 1, 0, none⟩) (by first | omega | (simp; done) | (simp; omega))).trans (by go_cell : _ = false)
      have t17_1_1 := (hb.cell (p := ⟨w2.heap.size + 1, 1, none⟩) (by first | omega | (simp; done) | (simp; omega))).trans (by go_cell : _ = some (.int .i64 0))
      have z17_1_1 := (hb.frozen (p := ⟨w2.heap.size + 1, 1, none⟩) (by first | omega | (simp; done) | (simp; omega))).trans (by go_cell : _ = false)
      have t17_1_2 := (hb.cell (p := ⟨w2.heap.size + 1, 2, none⟩) (by first | omega | (simp; done) | (simp; omega))).trans (by go_cell : _ = some (.int .i64 0))
      have z17_1_2 := (hb.frozen (p := ⟨w2.heap.size + 1, 2, none⟩) (by first | omega | (simp; done) | (simp; omega))).trans (by go_cell : _ = false)
      have t17_1_3 := (hb.cell (p := ⟨w2.heap.size + 1, 3, none⟩) (by first | omega | (simp; done) | (simp; omega))).trans (by go_cell : _ = some (.int .i64 0))
      have z17_1_3 := (hb.frozen (p := ⟨w2.heap.size + 1, 3, none⟩) (by first | omega | (simp; done) | (simp; omega))).trans (by go_cell : _ = false)
      have l17_1 : w2.heap.size + 1 < w17.heap.size := by have hs := hb.size; (try simp at hs); omega
      clear hb hHeld
      obtain rfl : e = .returned (.agg #[.int .i64 q1, .int .i64 q2, .int .i64 q3, .int .i64 q4]) := he
      refine hK.out _ _ (G0.out _ HD17) (fun hHeld => ?_)
      clear hK K
      try simp only [act_all]
      refine wpAnyH_ready (rs := [8]) (by kernel_rfl) (by simp) ?_
      refine AllReadyH.cons (o := _) rfl (fun K hK => ?_) AllReadyH.nil
      obtain ⟨_, _, _, _, _, _, _, _, _, _, _, _, _, _, _, _⟩ := G0.out _ HD17
      have nb0 : w.heap.size < w17.heap.size := by omega
      have nx00 : ¬ w2.heap.size = w.heap.size := by omega
      have nx01 : ¬ w2.heap.size + 1 = w.heap.size := by omega
      have nb1 : w.heap.size + 1 < w17.heap.size := by omega
      have nx10 : ¬ w2.heap.size = w.heap.size + 1 := by omega
      have nx11 : ¬ w2.heap.size + 1 = w.heap.size + 1 := by omega
      have nb2 : w.heap.size + 1 + 1 < w17.heap.size := by omega
      have nx20 : ¬ w2.heap.size = w.heap.size + 1 + 1 := by omega
      have nx21 : ¬ w2.heap.size + 1 = w.heap.size + 1 + 1 := by omega
      have nb3 : w.heap.size + 1 + 1 + 1 < w17.heap.size := by omega
      have nx30 : ¬ w2.heap.size = w.heap.size + 1 + 1 + 1 := by omega
      have nx31 : ¬ w2.heap.size + 1 = w.heap.size + 1 + 1 + 1 := by omega
      have ny : ¬ w2.heap.size = w2.heap.size + 1 := by omega
      have ny' : ¬ w2.heap.size + 1 = w2.heap.size := by omega
      go_simp
      refine hK.out _ _ (by refine ⟨?_, ?_, ?_, ?_, ?_, ?_, ?_, ?_, ?_, ?_, ?_, ?_, ?_, ?_, ?_, ?_⟩ <;> go_cell) (fun hHeld => ?_)
      clear hK K
      try simp only [act_all]
      refine wpAnyH_ready (rs := [9]) (by kernel_rfl) (by simp) ?_
      refine AllReadyH.cons (o := _) rfl (fun K hK => ?_) AllReadyH.nil
      go_simp
      refine hK.out _ _ (by refine ⟨?_, ?_, ?_, ?_, ?_, ?_, ?_, ?_, ?_, ?_, ?_, ?_, ?_, ?_, ?_, ?_⟩ <;> go_cell) (fun hHeld => ?_)
      clear hK K
      try simp only [act_all]
      refine wpAnyH_done (by kernel_rfl) ?_ _
      have DLL := HD17
      go_wp2_with fail
      go_meet
      refine ⟨w2.heap.size + 1, w2.heap.size, rfl, rfl, ?_, ?_, ?_, ?_, ?_, ?_, ?_, ?_, ?_, ?_, ?_, ?_, ?_⟩
      all_goals first | (go_cell; done) | omega | (simp; done) | (simp; omega) | go_grown
    refine AllReadyH.cons (o := _) rfl (fun K hK => ?_) ?_
    · have HD18 : Below W.heap.size W (W.drew.alloc (Obj.cells #[.int .i64 0, .int .i64 0, .int .i64 0, .int .i64 0] 25)) := bal HD1 _
      go_simp
      refine hK.out _ _ (G0.out _ HD18) (fun hHeld => ?_)
      clear hK K
      try simp only [act_all]
      refine wpAnyH_ready (rs := [2, 7]) (by kernel_rfl) (by simp) ?_
      refine AllReadyH.cons (o := _) rfl (fun K hK => ?_) ?_
      · go_simp
        refine (KX.out _).mono ?_
        rintro e w19 ⟨he, hb⟩
        have HD19 : Below W.heap.size W w19 := Below.trans HD18 (hb.mono HD18.size)
        have hz19 := HD19.size
        have DA19 := HB0.out.trans (HD19.mono (show w.heap.size ≤ W.heap.size by omega))
        have t19_0_0 := (hb.cell (p := ⟨W.heap.size, 0, none⟩) (by first | omega | (simp; done) | (simp; omega))).trans (by go_cell : _ = some (.int .i64 0))
        have z19_0_0 := (hb.frozen (p := ⟨W.heap.size, 0, none⟩) (by first | omega | (simp; done) | (simp; omega))).trans (by go_cell : _ = false)
        have t19_0_1 := (hb.cell (p := ⟨W.heap.size, 1, none⟩) (by first | omega | (simp; done) | (simp; omega))).trans (by go_cell : _ = some (.int .i64 0))
        have z19_0_1 := (hb.frozen (p := ⟨W.heap.size, 1, none⟩) (by first | omega | (simp; done) | (simp; omega))).trans (by go_cell : _ = false)
        have t19_0_2 := (hb.cell (p := ⟨W.heap.size, 2, none⟩) (by first | omega | (simp; done) | (simp; omega))).trans (by go_cell : _ = some (.int .i64 0))
        have z19_0_2 := (hb.frozen (p := ⟨W.heap.size, 2, none⟩) (by first | omega | (simp; done) | (simp; omega))).trans (by go_cell : _ = false)
        have t19_0_3 := (hb.cell (p := ⟨W.heap.size, 3, none⟩) (by first | omega | (simp; done) | (simp; omega))).trans (by go_cell : _ = some (.int .i64 0))
        have z19_0_3 := (hb.frozen (p := ⟨W.heap.size, 3, none⟩) (by first | omega | (simp; done) | (simp; omega))).trans (by go_cell : _ = false)
        have l19_0 : W.heap.size < w19.heap.size := by have hs := hb.size; (try simp at hs); omega
        clear hb hHeld
        obtain rfl : e = .returned (.agg #[.int .i64 p1, .int .i64 p2, .int .i64 p3, .int .i64 p4]) := he
        refine hK.out _ _ (G0.out _ HD19) (fun hHeld => ?_)
        clear hK K
        try simp only [act_all]
        refine wpAnyH_ready (rs := [5, 7]) (by kernel_rfl) (by simp) ?_
        refine AllReadyH.cons (o := _) rfl (fun K hK => ?_) ?_
        · go_simp
          refine (KY.out _).mono ?_
          rintro e w20 ⟨he, hb⟩
          have HD20 : Below W.heap.size W w20 := Below.trans HD19 (hb.mono HD19.size)
          have hz20 := HD20.size
          have DA20 := HB0.out.trans (HD20.mono (show w.heap.size ≤ W.heap.size by omega))
          have t20_0_0 := (hb.cell (p := ⟨W.heap.size, 0, none⟩) (by first | omega | (simp; done) | (simp; omega))).trans (by go_cell : _ = some (.int .i64 0))
          have z20_0_0 := (hb.frozen (p := ⟨W.heap.size, 0, none⟩) (by first | omega | (simp; done) | (simp; omega))).trans (by go_cell : _ = false)
          have t20_0_1 := (hb.cell (p := ⟨W.heap.size, 1, none⟩) (by first | omega | (simp; done) | (simp; omega))).trans (by go_cell : _ = some (.int .i64 0))
          have z20_0_1 := (hb.frozen (p := ⟨W.heap.size, 1, none⟩) (by first | omega | (simp; done) | (simp; omega))).trans (by go_cell : _ = false)
          have t20_0_2 := (hb.cell (p := ⟨W.heap.size, 2, none⟩) (by first | omega | (simp; done) | (simp; omega))).trans (by go_cell : _ = some (.int .i64 0))
          have z20_0_2 := (hb.frozen (p := ⟨W.heap.size, 2, none⟩) (by first | omega | (simp; done) | (simp; omega))).trans (by go_cell : _ = false)
          have t20_0_3 := (hb.cell (p := ⟨W.heap.size, 3, none⟩) (by first | omega | (simp; done) | (simp; omega))).trans (by go_cell : _ = some (.int .i64 0))
          have z20_0_3 := (hb.frozen (p := ⟨W.heap.size, 3, none⟩) (by first | omega | (simp; done) | (simp; omega))).trans (by go_cell : _ = false)
          have l20_0 : W.heap.size < w20.heap.size := by have hs := hb.size; (try simp at hs); omega
          clear hb hHeld
          obtain rfl : e = .returned (.agg #[.int .i64 q1, .int .i64 q2, .int .i64 q3, .int .i64 q4]) := he
          refine hK.out _ _ (G0.out _ HD20) (fun hHeld => ?_)
          clear hK K
          try simp only [act_all]
          refine wpAnyH_ready (rs := [7]) (by kernel_rfl) (by simp) ?_
          refine AllReadyH.cons (o := _) rfl (fun K hK => ?_) AllReadyH.nil
          have HD21 : Below W.heap.size W (w20.alloc (Obj.cells #[.int .i64 0, .int .i64 0, .int .i64 0, .int .i64 0] 25)) := bal HD20 _
          go_simp
          refine hK.out _ _ (G0.out _ HD21) (fun hHeld => ?_)
          clear hK K
          try simp only [act_all]
          refine wpAnyH_ready (rs := [8]) (by kernel_rfl) (by simp) ?_
          refine AllReadyH.cons (o := _) rfl (fun K hK => ?_) AllReadyH.nil
          obtain ⟨_, _, _, _, _, _, _, _, _, _, _, _, _, _, _, _⟩ := G0.out _ HD20
          have nb0 : w.heap.size < w20.heap.size := by omega
          have nx00 : ¬ W.heap.size = w.heap.size := by omega
          have nx01 : ¬ w20.heap.size = w.heap.size := by omega
          have nb1 : w.heap.size + 1 < w20.heap.size := by omega
          have nx10 : ¬ W.heap.size = w.heap.size + 1 := by omega
          have nx11 : ¬ w20.heap.size = w.heap.size + 1 := by omega
          have nb2 : w.heap.size + 1 + 1 < w20.heap.size := by omega
          have nx20 : ¬ W.heap.size = w.heap.size + 1 + 1 := by omega
          have nx21 : ¬ w20.heap.size = w.heap.size + 1 + 1 := by omega
          have nb3 : w.heap.size + 1 + 1 + 1 < w20.heap.size := by omega
          have nx30 : ¬ W.heap.size = w.heap.size + 1 + 1 + 1 := by omega
          have nx31 : ¬ w20.heap.size = w.heap.size + 1 + 1 + 1 := by omega
          have ny : ¬ W.heap.size = w20.heap.size := by omega
          have ny' : ¬ w20.heap.size = W.heap.size := by omega
          go_simp
          refine hK.out _ _ (by refine ⟨?_, ?_, ?_, ?_, ?_, ?_, ?_, ?_, ?_, ?_, ?_, ?_, ?_, ?_, ?_, ?_⟩ <;> go_cell) (fun hHeld => ?_)
          clear hK K
          try simp only [act_all]
          refine wpAnyH_ready (rs := [9]) (by kernel_rfl) (by simp) ?_
          refine AllReadyH.cons (o := _) rfl (fun K hK => ?_) AllReadyH.nil
          go_simp
          refine hK.out _ _ (by refine ⟨?_, ?_, ?_, ?_, ?_, ?_, ?_, ?_, ?_, ?_, ?_, ?_, ?_, ?_, ?_, ?_⟩ <;> go_cell) (fun hHeld => ?_)
          clear hK K
          try simp only [act_all]
          refine wpAnyH_done (by kernel_rfl) ?_ _
          have DLL := HD20
          go_wp2_with fail
          go_meet
          refine ⟨W.heap.size, w20.heap.size, rfl, rfl, ?_, ?_, ?_, ?_, ?_, ?_, ?_, ?_, ?_, ?_, ?_, ?_, ?_⟩
          all_goals first | (go_cell; done) | omega | (simp; done) | (simp; omega) | go_grown
        refine AllReadyH.cons (o := _) rfl (fun K hK => ?_) AllReadyH.nil
        have HD22 : Below W.heap.size W (w19.alloc (Obj.cells #[.int .i64 0, .int .i64 0, .int .i64 0, .int .i64 0] 25)) := bal HD19 _
        go_simp
        refine hK.out _ _ (G0.out _ HD22) (fun hHeld => ?_)
        clear hK K
        try simp only [act_all]
        refine wpAnyH_ready (rs := [5]) (by kernel_rfl) (by simp) ?_
        refine AllReadyH.cons (o := _) rfl (fun K hK => ?_) AllReadyH.nil
        go_simp
        refine (KY.out _).mono ?_
        rintro e w23 ⟨he, hb⟩
        have HD23 : Below W.heap.size W w23 := Below.trans HD22 (hb.mono HD22.size)
        have hz23 := HD23.size
        have DA23 := HB0.out.trans (HD23.mono (show w.heap.size ≤ W.heap.size by omega))
        have t23_0_0 := (hb.cell (p := ⟨W.heap.size, 0, none⟩) (by first | omega | (simp; done) | (simp; omega))).trans (by go_cell : _ = some (.int .i64 0))
        have z23_0_0 := (hb.frozen (p := ⟨W.heap.size, 0, none⟩) (by first | omega | (simp; done) | (simp; omega))).trans (by go_cell : _ = false)
        have t23_0_1 := (hb.cell (p := ⟨W.heap.size, 1, none⟩) (by first | omega | (simp; done) | (simp; omega))).trans (by go_cell : _ = some (.int .i64 0))
        have z23_0_1 := (hb.frozen (p := ⟨W.heap.size, 1, none⟩) (by first | omega | (simp; done) | (simp; omega))).trans (by go_cell : _ = false)
        have t23_0_2 := (hb.cell (p := ⟨W.heap.size, 2, none⟩) (by first | omega | (simp; done) | (simp; omega))).trans (by go_cell : _ = some (.int .i64 0))
        have z23_0_2 := (hb.frozen (p := ⟨W.heap.size, 2, none⟩) (by first | omega | (simp; done) | (simp; omega))).trans (by go_cell : _ = false)
        have t23_0_3 := (hb.cell (p := ⟨W.heap.size, 3, none⟩) (by first | omega | (simp; done) | (simp; omega))).trans (by go_cell : _ = some (.int .i64 0))
        have z23_0_3 := (hb.frozen (p := ⟨W.heap.size, 3, none⟩) (by first | omega | (simp; done) | (simp; omega))).trans (by go_cell : _ = false)
        have l23_0 : W.heap.size < w23.heap.size := by have hs := hb.size; (try simp at hs); omega
        have t23_1_0 := (hb.cell (p := ⟨w19.heap.size, 0, none⟩) (by first | omega | (simp; done) | (simp; omega))).trans (by go_cell : _ = some (.int .i64 0))
        have z23_1_0 := (hb.frozen (p := ⟨w19.heap.size, 0, none⟩) (by first | omega | (simp; done) | (simp; omega))).trans (by go_cell : _ = false)
        have t23_1_1 := (hb.cell (p := ⟨w19.heap.size, 1, none⟩) (by first | omega | (simp; done) | (simp; omega))).trans (by go_cell : _ = some (.int .i64 0))
        have z23_1_1 := (hb.frozen (p := ⟨w19.heap.size, 1, none⟩) (by first | omega | (simp; done) | (simp; omega))).trans (by go_cell : _ = false)
        have t23_1_2 := (hb.cell (p := ⟨w19.heap.size, 2, none⟩) (by first | omega | (simp; done) | (simp; omega))).trans (by go_cell : _ = some (.int .i64 0))
        have z23_1_2 := (hb.frozen (p := ⟨w19.heap.size, 2, none⟩) (by first | omega | (simp; done) | (simp; omega))).trans (by go_cell : _ = false)
        have t23_1_3 := (hb.cell (p := ⟨w19.heap.size, 3, none⟩) (by first | omega | (simp; done) | (simp; omega))).trans (by go_cell : _ = some (.int .i64 0))
        have z23_1_3 := (hb.frozen (p := ⟨w19.heap.size, 3, none⟩) (by first | omega | (simp; done) | (simp; omega))).trans (by go_cell : _ = false)
        have l23_1 : w19.heap.size < w23.heap.size := by have hs := hb.size; (try simp at hs); omega
        clear hb hHeld
        obtain rfl : e = .returned (.agg #[.int .i64 q1, .int .i64 q2, .int .i64 q3, .int .i64 q4]) := he
        refine hK.out _ _ (G0.out _ HD23) (fun hHeld => ?_)
        clear hK K
        try simp only [act_all]
        refine wpAnyH_ready (rs := [8]) (by kernel_rfl) (by simp) ?_
        refine AllReadyH.cons (o := _) rfl (fun K hK => ?_) AllReadyH.nil
        obtain ⟨_, _, _, _, _, _, _, _, _, _, _, _, _, _, _, _⟩ := G0.out _ HD23
        have nb0 : w.heap.size < w23.heap.size := by omega
        have nx00 : ¬ W.heap.size = w.heap.size := by omega
        have nx01 : ¬ w19.heap.size = w.heap.size := by omega
        have nb1 : w.heap.size + 1 < w23.heap.size := by omega
        have nx10 : ¬ W.heap.size = w.heap.size + 1 := by omega
        have nx11 : ¬ w19.heap.size = w.heap.size + 1 := by omega
        have nb2 : w.heap.size + 1 + 1 < w23.heap.size := by omega
        have nx20 : ¬ W.heap.size = w.heap.size + 1 + 1 := by omega
        have nx21 : ¬ w19.heap.size = w.heap.size + 1 + 1 := by omega
        have nb3 : w.heap.size + 1 + 1 + 1 < w23.heap.size := by omega
        have nx30 : ¬ W.heap.size = w.heap.size + 1 + 1 + 1 := by omega
        have nx31 : ¬ w19.heap.size = w.heap.size + 1 + 1 + 1 := by omega
        have ny : ¬ W.heap.size = w19.heap.size := by omega
        have ny' : ¬ w19.heap.size = W.heap.size := by omega
        go_simp
        refine hK.out _ _ (by refine ⟨?_, ?_, ?_, ?_, ?_, ?_, ?_, ?_, ?_, ?_, ?_, ?_, ?_, ?_, ?_, ?_⟩ <;> go_cell) (fun hHeld => ?_)
        clear hK K
        try simp only [act_all]
        refine wpAnyH_ready (rs := [9]) (by kernel_rfl) (by simp) ?_
        refine AllReadyH.cons (o := _) rfl (fun K hK => ?_) AllReadyH.nil
        go_simp
        refine hK.out _ _ (by refine ⟨?_, ?_, ?_, ?_, ?_, ?_, ?_, ?_, ?_, ?_, ?_, ?_, ?_, ?_, ?_, ?_⟩ <;> go_cell) (fun hHeld => ?_)
        clear hK K
        try simp only [act_all]
        refine wpAnyH_done (by kernel_rfl) ?_ _
        have DLL := HD23
        go_wp2_with fail
        go_meet
        refine ⟨W.heap.size, w19.heap.size, rfl, rfl, ?_, ?_, ?_, ?_, ?_, ?_, ?_, ?_, ?_, ?_, ?_, ?_, ?_⟩
        all_goals first | (go_cell; done) | omega | (simp; done) | (simp; omega) | go_grown
      refine AllReadyH.cons (o := _) rfl (fun K hK => ?_) AllReadyH.nil
      have HD24 : Below W.heap.size W ((W.drew.alloc (Obj.cells #[.int .i64 0, .int .i64 0, .int .i64 0, .int .i64 0] 25)).alloc (Obj.cells #[.int .i64 0, .int .i64 0, .int .i64 0, .int .i64 0] 25)) := bal HD18 _
      go_simp
      refine hK.out _ _ (G0.out _ HD24) (fun hHeld => ?_)
      clear hK K
      try simp only [act_all]
      refine wpAnyH_ready (rs := [2]) (by kernel_rfl) (by simp) ?_
      refine AllReadyH.cons (o := _) rfl (fun K hK => ?_) AllReadyH.nil
      go_simp
      refine (KX.out _).mono ?_
      rintro e w25 ⟨he, hb⟩
      have HD25 : Below W.heap.size W w25 := Below.trans HD24 (hb.mono HD24.size)
      have hz25 := HD25.size
      have DA25 := HB0.out.trans (HD25.mono (show w.heap.size ≤ W.heap.size by omega))
      have t25_0_0 := (hb.cell (p := ⟨W.heap.size, 0, none⟩) (by first | omega | (simp; done) | (simp; omega))).trans (by go_cell : _ = some (.int .i64 0))
      have z25_0_0 := (hb.frozen (p := ⟨W.heap.size, 0, none⟩) (by first | omega | (simp; done) | (simp; omega))).trans (by go_cell : _ = false)
      have t25_0_1 := (hb.cell (p := ⟨W.heap.size, 1, none⟩) (by first | omega | (simp; done) | (simp; omega))).trans (by go_cell : _ = some (.int .i64 0))
      have z25_0_1 := (hb.frozen (p := ⟨W.heap.size, 1, none⟩) (by first | omega | (simp; done) | (simp; omega))).trans (by go_cell : _ = false)
      have t25_0_2 := (hb.cell (p := ⟨W.heap.size, 2, none⟩) (by first | omega | (simp; done) | (simp; omega))).trans (by go_cell : _ = some (.int .i64 0))
      have z25_0_2 := (hb.frozen (p := ⟨W.heap.size, 2, none⟩) (by first | omega | (simp; done) | (simp; omega))).trans (by go_cell : _ = false)
      have t25_0_3 := (hb.cell (p := ⟨W.heap.size, 3, none⟩) (by first | omega | (simp; done) | (simp; omega))).trans (by go_cell : _ = some (.int .i64 0))
      have z25_0_3 := (hb.frozen (p := ⟨W.heap.size, 3, none⟩) (by first | omega | (simp; done) | (simp; omega))).trans (by go_cell : _ = false)
      have l25_0 : W.heap.size < w25.heap.size := by have hs := hb.size; (try simp at hs); omega
      have t25_1_0 := (hb.cell (p := ⟨W.heap.size + 1, 0, none⟩) (by first | omega | (simp; done) | (simp; omega))).trans (by go_cell : _ = some (.int .i64 0))
      have z25_1_0 := (hb.frozen (p := ⟨W.heap.size + 1, 0, none⟩) (by first | omega | (simp; done) | (simp; omega))).trans (by go_cell : _ = false)
      have t25_1_1 := (hb.cell (p := ⟨W.heap.size + 1, 1, none⟩) (by first | omega | (simp; done) | (simp; omega))).trans (by go_cell : _ = some (.int .i64 0))
      have z25_1_1 := (hb.frozen (p := ⟨W.heap.size + 1, 1, none⟩) (by first | omega | (simp; done) | (simp; omega))).trans (by go_cell : _ = false)
      have t25_1_2 := (hb.cell (p := ⟨W.heap.size + 1, 2, none⟩) (by first | omega | (simp; done) | (simp; omega))).trans (by go_cell : _ = some (.int .i64 0))
      have z25_1_2 := (hb.frozen (p := ⟨W.heap.size + 1, 2, none⟩) (by first | omega | (simp; done) | (simp; omega))).trans (by go_cell : _ = false)
      have t25_1_3 := (hb.cell (p := ⟨W.heap.size + 1, 3, none⟩) (by first | omega | (simp; done) | (simp; omega))).trans (by go_cell : _ = some (.int .i64 0))
      have z25_1_3 := (hb.frozen (p := ⟨W.heap.size + 1, 3, none⟩) (by first | omega | (simp; done) | (simp; omega))).trans (by go_cell : _ = false)
      have l25_1 : W.heap.size + 1 < w25.heap.size := by have hs := hb.size; (try simp at hs); omega
      clear hb hHeld
      obtain rfl : e = .returned (.agg #[.int .i64 p1, .int .i64 p2, .int .i64 p3, .int .i64 p4]) := he
      refine hK.out _ _ (G0.out _ HD25) (fun hHeld => ?_)
      clear hK K
      try simp only [act_all]
      refine wpAnyH_ready (rs := [5]) (by kernel_rfl) (by simp) ?_
      refine AllReadyH.cons (o := _) rfl (fun K hK => ?_) AllReadyH.nil
      go_simp
      refine (KY.out _).mono ?_
      rintro e w26 ⟨he, hb⟩
      have HD26 : Below W.heap.size W w26 := Below.trans HD25 (hb.mono HD25.size)
      have hz26 := HD26.size
      have DA26 := HB0.out.trans (HD26.mono (show w.heap.size ≤ W.heap.size by omega))
      have t26_0_0 := (hb.cell (p := ⟨W.heap.size, 0, none⟩) (by first | omega | (simp; done) | (simp; omega))).trans (by go_cell : _ = some (.int .i64 0))
      have z26_0_0 := (hb.frozen (p := ⟨W.heap.size, 0, none⟩) (by first | omega | (simp; done) | (simp; omega))).trans (by go_cell : _ = false)
      have t26_0_1 := (hb.cell (p := ⟨W.heap.size, 1, none⟩) (by first | omega | (simp; done) | (simp; omega))).trans (by go_cell : _ = some (.int .i64 0))
      have z26_0_1 := (hb.frozen (p := ⟨W.heap.size, 1, none⟩) (by first | omega | (simp; done) | (simp; omega))).trans (by go_cell : _ = false)
      have t26_0_2 := (hb.cell (p := ⟨W.heap.size, 2, none⟩) (by first | omega | (simp; done) | (simp; omega))).trans (by go_cell : _ = some (.int .i64 0))
      have z26_0_2 := (hb.frozen (p := ⟨W.heap.size, 2, none⟩) (by first | omega | (simp; done) | (simp; omega))).trans (by go_cell : _ = false)
      have t26_0_3 := (hb.cell (p := ⟨W.heap.size, 3, none⟩) (by first | omega | (simp; done) | (simp; omega))).trans (by go_cell : _ = some (.int .i64 0))
      have z26_0_3 := (hb.frozen (p := ⟨W.heap.size, 3, none⟩) (by first | omega | (simp; done) | (simp; omega))).trans (by go_cell : _ = false)
      have l26_0 : W.heap.size < w26.heap.size := by have hs := hb.size; (try simp at hs); omega
      have t26_1_0 := (hb.cell (p := ⟨W.heap.size + 1, 0, none⟩) (by first | omega | (simp; done) | (simp; omega))).trans (by go_cell : _ = some (.int .i64 0))
      have z26_1_0 := (hb.frozen (p := ⟨W.heap.size + 1, 0, none⟩) (by first | omega | (simp; done) | (simp; omega))).trans (by go_cell : _ = false)
      have t26_1_1 := (hb.cell (p := ⟨W.heap.size + 1, 1, none⟩) (by first | omega | (simp; done) | (simp; omega))).trans (by go_cell : _ = some (.int .i64 0))
      have z26_1_1 := (hb.frozen (p := ⟨W.heap.size + 1, 1, none⟩) (by first | omega | (simp; done) | (simp; omega))).trans (by go_cell : _ = false)
      have t26_1_2 := (hb.cell (p := ⟨W.heap.size + 1, 2, none⟩) (by first | omega | (simp; done) | (simp; omega))).trans (by go_cell : _ = some (.int .i64 0))
      have z26_1_2 := (hb.frozen (p := ⟨W.heap.size + 1, 2, none⟩) (by first | omega | (simp; done) | (simp; omega))).trans (by go_cell : _ = false)
      have t26_1_3 := (hb.cell (p := ⟨W.heap.size + 1, 3, none⟩) (by first | omega | (simp; done) | (simp; omega))).trans (by go_cell : _ = some (.int .i64 0))
      have z26_1_3 := (hb.frozen (p := ⟨W.heap.size + 1, 3, none⟩) (by first | omega | (simp; done) | (simp; omega))).trans (by go_cell : _ = false)
      have l26_1 : W.heap.size + 1 < w26.heap.size := by have hs := hb.size; (try simp at hs); omega
      clear hb hHeld
      obtain rfl : e = .returned (.agg #[.int .i64 q1, .int .i64 q2, .int .i64 q3, .int .i64 q4]) := he
      refine hK.out _ _ (G0.out _ HD26) (fun hHeld => ?_)
      clear hK K
      try simp only [act_all]
      refine wpAnyH_ready (rs := [8]) (by kernel_rfl) (by simp) ?_
      refine AllReadyH.cons (o := _) rfl (fun K hK => ?_) AllReadyH.nil
      obtain ⟨_, _, _, _, _, _, _, _, _, _, _, _, _, _, _, _⟩ := G0.out _ HD26
      have nb0 : w.heap.size < w26.heap.size := by omega
      have nx00 : ¬ W.heap.size = w.heap.size := by omega
      have nx01 : ¬ W.heap.size + 1 = w.heap.size := by omega
      have nb1 : w.heap.size + 1 < w26.heap.size := by omega
      have nx10 : ¬ W.heap.size = w.heap.size + 1 := by omega
      have nx11 : ¬ W.heap.size + 1 = w.heap.size + 1 := by omega
      have nb2 : w.heap.size + 1 + 1 < w26.heap.size := by omega
      have nx20 : ¬ W.heap.size = w.heap.size + 1 + 1 := by omega
      have nx21 : ¬ W.heap.size + 1 = w.heap.size + 1 + 1 := by omega
      have nb3 : w.heap.size + 1 + 1 + 1 < w26.heap.size := by omega
      have nx30 : ¬ W.heap.size = w.heap.size + 1 + 1 + 1 := by omega
      have nx31 : ¬ W.heap.size + 1 = w.heap.size + 1 + 1 + 1 := by omega
      have ny : ¬ W.heap.size = W.heap.size + 1 := by omega
      have ny' : ¬ W.heap.size + 1 = W.heap.size := by omega
      go_simp
      refine hK.out _ _ (by refine ⟨?_, ?_, ?_, ?_, ?_, ?_, ?_, ?_, ?_, ?_, ?_, ?_, ?_, ?_, ?_, ?_⟩ <;> go_cell) (fun hHeld => ?_)
      clear hK K
      try simp only [act_all]
      refine wpAnyH_ready (rs := [9]) (by kernel_rfl) (by simp) ?_
      refine AllReadyH.cons (o := _) rfl (fun K hK => ?_) AllReadyH.nil
      go_simp
      refine hK.out _ _ (by refine ⟨?_, ?_, ?_, ?_, ?_, ?_, ?_, ?_, ?_, ?_, ?_, ?_, ?_, ?_, ?_, ?_⟩ <;> go_cell) (fun hHeld => ?_)
      clear hK K
      try simp only [act_all]
      refine wpAnyH_done (by kernel_rfl) ?_ _
      have DLL := HD26
      go_wp2_with fail
      go_meet
      refine ⟨W.heap.size, W.heap.size + 1, rfl, rfl, ?_, ?_, ?_, ?_, ?_, ?_, ?_, ?_, ?_, ?_, ?_, ?_, ?_⟩
      all_goals first | (go_cell; done) | omega | (simp; done) | (simp; omega) | go_grown
    refine AllReadyH.cons (o := _) rfl (fun K hK => ?_) AllReadyH.nil
    have HD27 : Below W.heap.size W (W.drew.alloc (Obj.cells #[.int .i64 0, .int .i64 0, .int .i64 0, .int .i64 0] 25)) := bal HD1 _
    go_simp
    refine hK.out _ _ (G0.out _ HD27) (fun hHeld => ?_)
    clear hK K
    try simp only [act_all]
    refine wpAnyH_ready (rs := [2, 6]) (by kernel_rfl) (by simp) ?_
    refine AllReadyH.cons (o := _) rfl (fun K hK => ?_) ?_
    · go_simp
      refine (KX.out _).mono ?_
      rintro e w28 ⟨he, hb⟩
      have HD28 : Below W.heap.size W w28 := Below.trans HD27 (hb.mono HD27.size)
      have hz28 := HD28.size
      have DA28 := HB0.out.trans (HD28.mono (show w.heap.size ≤ W.heap.size by omega))
      have t28_0_0 := (hb.cell (p := ⟨W.heap.size, 0, none⟩) (by first | omega | (simp; done) | (simp; omega))).trans (by go_cell : _ = some (.int .i64 0))
      have z28_0_0 := (hb.frozen (p := ⟨W.heap.size, 0, none⟩) (by first | omega | (simp; done) | (simp; omega))).trans (by go_cell : _ = false)
      have t28_0_1 := (hb.cell (p := ⟨W.heap.size, 1, none⟩) (by first | omega | (simp; done) | (simp; omega))).trans (by go_cell : _ = some (.int .i64 0))
      have z28_0_1 := (hb.frozen (p := ⟨W.heap.size, 1, none⟩) (by first | omega | (simp; done) | (simp; omega))).trans (by go_cell : _ = false)
      have t28_0_2 := (hb.cell (p := ⟨W.heap.size, 2, none⟩) (by first | omega | (simp; done) | (simp; omega))).trans (by go_cell : _ = some (.int .i64 0))
      have z28_0_2 := (hb.frozen (p := ⟨W.heap.size, 2, none⟩) (by first | omega | (simp; done) | (simp; omega))).trans (by go_cell : _ = false)
      have t28_0_3 := (hb.cell (p := ⟨W.heap.size, 3, none⟩) (by first | omega | (simp; done) | (simp; omega))).trans (by go_cell : _ = some (.int .i64 0))
      have z28_0_3 := (hb.frozen (p := ⟨W.heap.size, 3, none⟩) (by first | omega | (simp; done) | (simp; omega))).trans (by go_cell : _ = false)
      have l28_0 : W.heap.size < w28.heap.size := by have hs := hb.size; (try simp at hs); omega
      clear hb hHeld
      obtain rfl : e = .returned (.agg #[.int .i64 p1, .int .i64 p2, .int .i64 p3, .int .i64 p4]) := he
      refine hK.out _ _ (G0.out _ HD28) (fun hHeld => ?_)
      clear hK K
      try simp only [act_all]
      refine wpAnyH_ready (rs := [5, 6]) (by kernel_rfl) (by simp) ?_
      refine AllReadyH.cons (o := _) rfl (fun K hK => ?_) ?_
      · go_simp
        refine (KY.out _).mono ?_
        rintro e w29 ⟨he, hb⟩
        have HD29 : Below W.heap.size W w29 := Below.trans HD28 (hb.mono HD28.size)
        have hz29 := HD29.size
        have DA29 := HB0.out.trans (HD29.mono (show w.heap.size ≤ W.heap.size by omega))
        have t29_0_0 := (hb.cell (p := ⟨W.heap.size, 0, none⟩) (by first | omega | (simp; done) | (simp; omega))).trans (by go_cell : _ = some (.int .i64 0))
        have z29_0_0 := (hb.frozen (p := ⟨W.heap.size, 0, none⟩) (by first | omega | (simp; done) | (simp; omega))).trans (by go_cell : _ = false)
        have t29_0_1 := (hb.cell (p := ⟨W.heap.size, 1, none⟩) (by first | omega | (simp; done) | (simp; omega))).trans (by go_cell : _ = some (.int .i64 0))
        have z29_0_1 := (hb.frozen (p := ⟨W.heap.size, 1, none⟩) (by first | omega | (simp; done) | (simp; omega))).trans (by go_cell : _ = false)
        have t29_0_2 := (hb.cell (p := ⟨W.heap.size, 2, none⟩) (by first | omega | (simp; done) | (simp; omega))).trans (by go_cell : _ = some (.int .i64 0))
        have z29_0_2 := (hb.frozen (p := ⟨W.heap.size, 2, none⟩) (by first | omega | (simp; done) | (simp; omega))).trans (by go_cell : _ = false)
        have t29_0_3 := (hb.cell (p := ⟨W.heap.size, 3, none⟩) (by first | omega | (simp; done) | (simp; omega))).trans (by go_cell : _ = some (.int .i64 0))
        have z29_0_3 := (hb.frozen (p := ⟨W.heap.size, 3, none⟩) (by first | omega | (simp; done) | (simp; omega))).trans (by go_cell : _ = false)
        have l29_0 : W.heap.size < w29.heap.size := by have hs := hb.size; (try simp at hs); omega
        clear hb hHeld
        obtain rfl : e = .returned (.agg #[.int .i64 q1, .int .i64 q2, .int .i64 q3, .int .i64 q4]) := he
        refine hK.out _ _ (G0.out _ HD29) (fun hHeld => ?_)
        clear hK K
        try simp only [act_all]
        refine wpAnyH_ready (rs := [6]) (by kernel_rfl) (by simp) ?_
        refine AllReadyH.cons (o := _) rfl (fun K hK => ?_) AllReadyH.nil
        have HD30 : Below W.heap.size W (w29.alloc (Obj.cells #[.int .i64 0, .int .i64 0, .int .i64 0, .int .i64 0] 25)) := bal HD29 _
        go_simp
        refine hK.out _ _ (G0.out _ HD30) (fun hHeld => ?_)
        clear hK K
        try simp only [act_all]
        refine wpAnyH_ready (rs := [8]) (by kernel_rfl) (by simp) ?_
        refine AllReadyH.cons (o := _) rfl (fun K hK => ?_) AllReadyH.nil
        obtain ⟨_, _, _, _, _, _, _, _, _, _, _, _, _, _, _, _⟩ := G0.out _ HD29
        have nb0 : w.heap.size < w29.heap.size := by omega
        have nx00 : ¬ W.heap.size = w.heap.size := by omega
        have nx01 : ¬ w29.heap.size = w.heap.size := by omega
        have nb1 : w.heap.size + 1 < w29.heap.size := by omega
        have nx10 : ¬ W.heap.size = w.heap.size + 1 := by omega
        have nx11 : ¬ w29.heap.size = w.heap.size + 1 := by omega
        have nb2 : w.heap.size + 1 + 1 < w29.heap.size := by omega
        have nx20 : ¬ W.heap.size = w.heap.size + 1 + 1 := by omega
        have nx21 : ¬ w29.heap.size = w.heap.size + 1 + 1 := by omega
        have nb3 : w.heap.size + 1 + 1 + 1 < w29.heap.size := by omega
        have nx30 : ¬ W.heap.size = w.heap.size + 1 + 1 + 1 := by omega
        have nx31 : ¬ w29.heap.size = w.heap.size + 1 + 1 + 1 := by omega
        have ny : ¬ W.heap.size = w29.heap.size := by omega
        have ny' : ¬ w29.heap.size = W.heap.size := by omega
        go_simp
        refine hK.out _ _ (by refine ⟨?_, ?_, ?_, ?_, ?_, ?_, ?_, ?_, ?_, ?_, ?_, ?_, ?_, ?_, ?_, ?_⟩ <;> go_cell) (fun hHeld => ?_)
        clear hK K
        try simp only [act_all]
        refine wpAnyH_ready (rs := [9]) (by kernel_rfl) (by simp) ?_
        refine AllReadyH.cons (o := _) rfl (fun K hK => ?_) AllReadyH.nil
        go_simp
        refine hK.out _ _ (by refine ⟨?_, ?_, ?_, ?_, ?_, ?_, ?_, ?_, ?_, ?_, ?_, ?_, ?_, ?_, ?_, ?_⟩ <;> go_cell) (fun hHeld => ?_)
        clear hK K
        try simp only [act_all]
        refine wpAnyH_done (by kernel_rfl) ?_ _
        have DLL := HD29
        go_wp2_with fail
        go_meet
        refine ⟨w29.heap.size, W.heap.size, rfl, rfl, ?_, ?_, ?_, ?_, ?_, ?_, ?_, ?_, ?_, ?_, ?_, ?_, ?_⟩
        all_goals first | (go_cell; done) | omega | (simp; done) | (simp; omega) | go_grown
      refine AllReadyH.cons (o := _) rfl (fun K hK => ?_) AllReadyH.nil
      have HD31 : Below W.heap.size W (w28.alloc (Obj.cells #[.int .i64 0, .int .i64 0, .int .i64 0, .int .i64 0] 25)) := bal HD28 _
      go_simp
      refine hK.out _ _ (G0.out _ HD31) (fun hHeld => ?_)
      clear hK K
      try simp only [act_all]
      refine wpAnyH_ready (rs := [5]) (by kernel_rfl) (by simp) ?_
      refine AllReadyH.cons (o := _) rfl (fun K hK => ?_) AllReadyH.nil
      go_simp
      refine (KY.out _).mono ?_
      rintro e w32 ⟨he, hb⟩
      have HD32 : Below W.heap.size W w32 := Below.trans HD31 (hb.mono HD31.size)
      have hz32 := HD32.size
      have DA32 := HB0.out.trans (HD32.mono (show w.heap.size ≤ W.heap.size by omega))
      have t32_0_0 := (hb.cell (p := ⟨W.heap.size, 0, none⟩) (by first | omega | (simp; done) | (simp; omega))).trans (by go_cell : _ = some (.int .i64 0))
      have z32_0_0 := (hb.frozen (p := ⟨W.heap.size, 0, none⟩) (by first | omega | (simp; done) | (simp; omega))).trans (by go_cell : _ = false)
      have t32_0_1 := (hb.cell (p := ⟨W.heap.size, 1, none⟩) (by first | omega | (simp; done) | (simp; omega))).trans (by go_cell : _ = some (.int .i64 0))
      have z32_0_1 := (hb.frozen (p := ⟨W.heap.size, 1, none⟩) (by first | omega | (simp; done) | (simp; omega))).trans (by go_cell : _ = false)
      have t32_0_2 := (hb.cell (p := ⟨W.heap.size, 2, none⟩) (by first | omega | (simp; done) | (simp; omega))).trans (by go_cell : _ = some (.int .i64 0))
      have z32_0_2 := (hb.frozen (p := ⟨W.heap.size, 2, none⟩) (by first | omega | (simp; done) | (simp; omega))).trans (by go_cell : _ = false)
      have t32_0_3 := (hb.cell (p := ⟨W.heap.size, 3, none⟩) (by first | omega | (simp; done) | (simp; omega))).trans (by go_cell : _ = some (.int .i64 0))
      have z32_0_3 := (hb.frozen (p := ⟨W.heap.size, 3, none⟩) (by first | omega | (simp; done) | (simp; omega))).trans (by go_cell : _ = false)
      have l32_0 : W.heap.size < w32.heap.size := by have hs := hb.size; (try simp at hs); omega
      have t32_1_0 := (hb.cell (p := ⟨w28.heap.size, 0, none⟩) (by first | omega | (simp; done) | (simp; omega))).trans (by go_cell : _ = some (.int .i64 0))
      have z32_1_0 := (hb.frozen (p := ⟨w28.heap.size, 0, none⟩) (by first | omega | (simp; done) | (simp; omega))).trans (by go_cell : _ = false)
      have t32_1_1 := (hb.cell (p := ⟨w28.heap.size, 1, none⟩) (by first | omega | (simp; done) | (simp; omega))).trans (by go_cell : _ = some (.int .i64 0))
      have z32_1_1 := (hb.frozen (p := ⟨w28.heap.size, 1, none⟩) (by first | omega | (simp; done) | (simp; omega))).trans (by go_cell : _ = false)
      have t32_1_2 := (hb.cell (p := ⟨w28.heap.size, 2, none⟩) (by first | omega | (simp; done) | (simp; omega))).trans (by go_cell : _ = some (.int .i64 0))
      have z32_1_2 := (hb.frozen (p := ⟨w28.heap.size, 2, none⟩) (by first | omega | (simp; done) | (simp; omega))).trans (by go_cell : _ = false)
      have t32_1_3 := (hb.cell (p := ⟨w28.heap.size, 3, none⟩) (by first | omega | (simp; done) | (simp; omega))).trans (by go_cell : _ = some (.int .i64 0))
      have z32_1_3 := (hb.frozen (p := ⟨w28.heap.size, 3, none⟩) (by first | omega | (simp; done) | (simp; omega))).trans (by go_cell : _ = false)
      have l32_1 : w28.heap.size < w32.heap.size := by have hs := hb.size; (try simp at hs); omega
      clear hb hHeld
      obtain rfl : e = .returned (.agg #[.int .i64 q1, .int .i64 q2, .int .i64 q3, .int .i64 q4]) := he
      refine hK.out _ _ (G0.out _ HD32) (fun hHeld => ?_)
      clear hK K
      try simp only [act_all]
      refine wpAnyH_ready (rs := [8]) (by kernel_rfl) (by simp) ?_
      refine AllReadyH.cons (o := _) rfl (fun K hK => ?_) AllReadyH.nil
      obtain ⟨_, _, _, _, _, _, _, _, _, _, _, _, _, _, _, _⟩ := G0.out _ HD32
      have nb0 : w.heap.size < w32.heap.size := by omega
      have nx00 : ¬ W.heap.size = w.heap.size := by omega
      have nx01 : ¬ w28.heap.size = w.heap.size := by omega
      have nb1 : w.heap.size + 1 < w32.heap.size := by omega
      have nx10 : ¬ W.heap.size = w.heap.size + 1 := by omega
      have nx11 : ¬ w28.heap.size = w.heap.size + 1 := by omega
      have nb2 : w.heap.size + 1 + 1 < w32.heap.size := by omega
      have nx20 : ¬ W.heap.size = w.heap.size + 1 + 1 := by omega
      have nx21 : ¬ w28.heap.size = w.heap.size + 1 + 1 := by omega
      have nb3 : w.heap.size + 1 + 1 + 1 < w32.heap.size := by omega
      have nx30 : ¬ W.heap.size = w.heap.size + 1 + 1 + 1 := by omega
      have nx31 : ¬ w28.heap.size = w.heap.size + 1 + 1 + 1 := by omega
      have ny : ¬ W.heap.size = w28.heap.size := by omega
      have ny' : ¬ w28.heap.size = W.heap.size := by omega
      go_simp
      refine hK.out _ _ (by refine ⟨?_, ?_, ?_, ?_, ?_, ?_, ?_, ?_, ?_, ?_, ?_, ?_, ?_, ?_, ?_, ?_⟩ <;> go_cell) (fun hHeld => ?_)
      clear hK K
      try simp only [act_all]
      refine wpAnyH_ready (rs := [9]) (by kernel_rfl) (by simp) ?_
      refine AllReadyH.cons (o := _) rfl (fun K hK => ?_) AllReadyH.nil
      go_simp
      refine hK.out _ _ (by refine ⟨?_, ?_, ?_, ?_, ?_, ?_, ?_, ?_, ?_, ?_, ?_, ?_, ?_, ?_, ?_, ?_⟩ <;> go_cell) (fun hHeld => ?_)
      clear hK K
      try simp only [act_all]
      refine wpAnyH_done (by kernel_rfl) ?_ _
      have DLL := HD32
      go_wp2_with fail
      go_meet
      refine ⟨w28.heap.size, W.heap.size, rfl, rfl, ?_, ?_, ?_, ?_, ?_, ?_, ?_, ?_, ?_, ?_, ?_, ?_, ?_⟩
      all_goals first | (go_cell; done) | omega | (simp; done) | (simp; omega) | go_grown
    refine AllReadyH.cons (o := _) rfl (fun K hK => ?_) AllReadyH.nil
    have HD33 : Below W.heap.size W ((W.drew.alloc (Obj.cells #[.int .i64 0, .int .i64 0, .int .i64 0, .int .i64 0] 25)).alloc (Obj.cells #[.int .i64 0, .int .i64 0, .int .i64 0, .int .i64 0] 25)) := bal HD27 _
    go_simp
    refine hK.out _ _ (G0.out _ HD33) (fun hHeld => ?_)
    clear hK K
    try simp only [act_all]
    refine wpAnyH_ready (rs := [2]) (by kernel_rfl) (by simp) ?_
    refine AllReadyH.cons (o := _) rfl (fun K hK => ?_) AllReadyH.nil
    go_simp
    refine (KX.out _).mono ?_
    rintro e w34 ⟨he, hb⟩
    have HD34 : Below W.heap.size W w34 := Below.trans HD33 (hb.mono HD33.size)
    have hz34 := HD34.size
    have DA34 := HB0.out.trans (HD34.mono (show w.heap.size ≤ W.heap.size by omega))
    have t34_0_0 := (hb.cell (p := ⟨W.heap.size, 0, none⟩) (by first | omega | (simp; done) | (simp; omega))).trans (by go_cell : _ = some (.int .i64 0))
    have z34_0_0 := (hb.frozen (p := ⟨W.heap.size, 0, none⟩) (by first | omega | (simp; done) | (simp; omega))).trans (by go_cell : _ = false)
    have t34_0_1 := (hb.cell (p := ⟨W.heap.size, 1, none⟩) (by first | omega | (simp; done) | (simp; omega))).trans (by go_cell : _ = some (.int .i64 0))
    have z34_0_1 := (hb.frozen (p := ⟨W.heap.size, 1, none⟩) (by first | omega | (simp; done) | (simp; omega))).trans (by go_cell : _ = false)
    have t34_0_2 := (hb.cell (p := ⟨W.heap.size, 2, none⟩) (by first | omega | (simp; done) | (simp; omega))).trans (by go_cell : _ = some (.int .i64 0))
    have z34_0_2 := (hb.frozen (p := ⟨W.heap.size, 2, none⟩) (by first | omega | (simp; done) | (simp; omega))).trans (by go_cell : _ = false)
    have t34_0_3 := (hb.cell (p := ⟨W.heap.size, 3, none⟩) (by first | omega | (simp; done) | (simp; omega))).trans (by go_cell : _ = some (.int .i64 0))
    have z34_0_3 := (hb.frozen (p := ⟨W.heap.size, 3, none⟩) (by first | omega | (simp; done) | (simp; omega))).trans (by go_cell : _ = false)
    have l34_0 : W.heap.size < w34.heap.size := by have hs := hb.size; (try simp at hs); omega
    have t34_1_0 := (hb.cell (p := ⟨W.heap.size + 1, 0, none⟩) (by first | omega | (simp; done) | (simp; omega))).trans (by go_cell : _ = some (.int .i64 0))
    have z34_1_0 := (hb.frozen (p := ⟨W.heap.size + 1, 0, none⟩) (by first | omega | (simp; done) | (simp; omega))).trans (by go_cell : _ = false)
    have t34_1_1 := (hb.cell (p := ⟨W.heap.size + 1, 1, none⟩) (by first | omega | (simp; done) | (simp; omega))).trans (by go_cell : _ = some (.int .i64 0))
    have z34_1_1 := (hb.frozen (p := ⟨W.heap.size + 1, 1, none⟩) (by first | omega | (simp; done) | (simp; omega))).trans (by go_cell : _ = false)
    have t34_1_2 := (hb.cell (p := ⟨W.heap.size + 1, 2, none⟩) (by first | omega | (simp; done) | (simp; omega))).trans (by go_cell : _ = some (.int .i64 0))
    have z34_1_2 := (hb.frozen (p := ⟨W.heap.size + 1, 2, none⟩) (by first | omega | (simp; done) | (simp; omega))).trans (by go_cell : _ = false)
    have t34_1_3 := (hb.cell (p := ⟨W.heap.size + 1, 3, none⟩) (by first | omega | (simp; done) | (simp; omega))).trans (by go_cell : _ = some (.int .i64 0))
    have z34_1_3 := (hb.frozen (p := ⟨W.heap.size + 1, 3, none⟩) (by first | omega | (simp; done) | (simp; omega))).trans (by go_cell : _ = false)
    have l34_1 : W.heap.size + 1 < w34.heap.size := by have hs := hb.size; (try simp at hs); omega
    clear hb hHeld
    obtain rfl : e = .returned (.agg #[.int .i64 p1, .int .i64 p2, .int .i64 p3, .int .i64 p4]) := he
    refine hK.out _ _ (G0.out _ HD34) (fun hHeld => ?_)
    clear hK K
    try simp only [act_all]
    refine wpAnyH_ready (rs := [5]) (by kernel_rfl) (by simp) ?_
    refine AllReadyH.cons (o := _) rfl (fun K hK => ?_) AllReadyH.nil
    go_simp
    refine (KY.out _).mono ?_
    rintro e w35 ⟨he, hb⟩
    have HD35 : Below W.heap.size W w35 := Below.trans HD34 (hb.mono HD34.size)
    have hz35 := HD35.size
    have DA35 := HB0.out.trans (HD35.mono (show w.heap.size ≤ W.heap.size by omega))
    have t35_0_0 := (hb.cell (p := ⟨W.heap.size, 0, none⟩) (by first | omega | (simp; done) | (simp; omega))).trans (by go_cell : _ = some (.int .i64 0))
    have z35_0_0 := (hb.frozen (p := ⟨W.heap.size, 0, none⟩) (by first | omega | (simp; done) | (simp; omega))).trans (by go_cell : _ = false)
    have t35_0_1 := (hb.cell (p := ⟨W.heap.size, 1, none⟩) (by first | omega | (simp; done) | (simp; omega))).trans (by go_cell : _ = some (.int .i64 0))
    have z35_0_1 := (hb.frozen (p := ⟨W.heap.size, 1, none⟩) (by first | omega | (simp; done) | (simp; omega))).trans (by go_cell : _ = false)
    have t35_0_2 := (hb.cell (p := ⟨W.heap.size, 2, none⟩) (by first | omega | (simp; done) | (simp; omega))).trans (by go_cell : _ = some (.int .i64 0))
    have z35_0_2 := (hb.frozen (p := ⟨W.heap.size, 2, none⟩) (by first | omega | (simp; done) | (simp; omega))).trans (by go_cell : _ = false)
    have t35_0_3 := (hb.cell (p := ⟨W.heap.size, 3, none⟩) (by first | omega | (simp; done) | (simp; omega))).trans (by go_cell : _ = some (.int .i64 0))
    have z35_0_3 := (hb.frozen (p := ⟨W.heap.size, 3, none⟩) (by first | omega | (simp; done) | (simp; omega))).trans (by go_cell : _ = false)
    have l35_0 : W.heap.size < w35.heap.size := by have hs := hb.size; (try simp at hs); omega
    have t35_1_0 := (hb.cell (p := ⟨W.heap.size + 1, 0, none⟩) (by first | omega | (simp; done) | (simp; omega))).trans (by go_cell : _ = some (.int .i64 0))
    have z35_1_0 := (hb.frozen (p := ⟨W.heap.size + 1, 0, none⟩) (by first | omega | (simp; done) | (simp; omega))).trans (by go_cell : _ = false)
    have t35_1_1 := (hb.cell (p := ⟨W.heap.size + 1, 1, none⟩) (by first | omega | (simp; done) | (simp; omega))).trans (by go_cell : _ = some (.int .i64 0))
    have z35_1_1 := (hb.frozen (p := ⟨W.heap.size + 1, 1, none⟩) (by first | omega | (simp; done) | (simp; omega))).trans (by go_cell : _ = false)
    have t35_1_2 := (hb.cell (p := ⟨W.heap.size + 1, 2, none⟩) (by first | omega | (simp; done) | (simp; omega))).trans (by go_cell : _ = some (.int .i64 0))
    have z35_1_2 := (hb.frozen (p := ⟨W.heap.size + 1, 2, none⟩) (by first | omega | (simp; done) | (simp; omega))).trans (by go_cell : _ = false)
    have t35_1_3 := (hb.cell (p := ⟨W.heap.size + 1, 3, none⟩) (by first | omega | (simp; done) | (simp; omega))).trans (by go_cell : _ = some (.int .i64 0))
    have z35_1_3 := (hb.frozen (p := ⟨W.heap.size + 1, 3, none⟩) (by first | omega | (simp; done) | (simp; omega))).trans (by go_cell : _ = false)
    have l35_1 : W.heap.size + 1 < w35.heap.size := by have hs := hb.size; (try simp at hs); omega
    clear hb hHeld
    obtain rfl : e = .returned (.agg #[.int .i64 q1, .int .i64 q2, .int .i64 q3, .int .i64 q4]) := he
    refine hK.out _ _ (G0.out _ HD35) (fun hHeld => ?_)
    clear hK K
    try simp only [act_all]
    refine wpAnyH_ready (rs := [8]) (by kernel_rfl) (by simp) ?_
    refine AllReadyH.cons (o := _) rfl (fun K hK => ?_) AllReadyH.nil
    obtain ⟨_, _, _, _, _, _, _, _, _, _, _, _, _, _, _, _⟩ := G0.out _ HD35
    have nb0 : w.heap.size < w35.heap.size := by omega
    have nx00 : ¬ W.heap.size = w.heap.size := by omega
    have nx01 : ¬ W.heap.size + 1 = w.heap.size := by omega
    have nb1 : w.heap.size + 1 < w35.heap.size := by omega
    have nx10 : ¬ W.heap.size = w.heap.size + 1 := by omega
    have nx11 : ¬ W.heap.size + 1 = w.heap.size + 1 := by omega
    have nb2 : w.heap.size + 1 + 1 < w35.heap.size := by omega
    have nx20 : ¬ W.heap.size = w.heap.size + 1 + 1 := by omega
    have nx21 : ¬ W.heap.size + 1 = w.heap.size + 1 + 1 := by omega
    have nb3 : w.heap.size + 1 + 1 + 1 < w35.heap.size := by omega
    have nx30 : ¬ W.heap.size = w.heap.size + 1 + 1 + 1 := by omega
    have nx31 : ¬ W.heap.size + 1 = w.heap.size + 1 + 1 + 1 := by omega
    have ny : ¬ W.heap.size = W.heap.size + 1 := by omega
    have ny' : ¬ W.heap.size + 1 = W.heap.size := by omega
    go_simp
    refine hK.out _ _ (by refine ⟨?_, ?_, ?_, ?_, ?_, ?_, ?_, ?_, ?_, ?_, ?_, ?_, ?_, ?_, ?_, ?_⟩ <;> go_cell) (fun hHeld => ?_)
    clear hK K
    try simp only [act_all]
    refine wpAnyH_ready (rs := [9]) (by kernel_rfl) (by simp) ?_
    refine AllReadyH.cons (o := _) rfl (fun K hK => ?_) AllReadyH.nil
    go_simp
    refine hK.out _ _ (by refine ⟨?_, ?_, ?_, ?_, ?_, ?_, ?_, ?_, ?_, ?_, ?_, ?_, ?_, ?_, ?_, ?_⟩ <;> go_cell) (fun hHeld => ?_)
    clear hK K
    try simp only [act_all]
    refine wpAnyH_done (by kernel_rfl) ?_ _
    have DLL := HD35
    go_wp2_with fail
    go_meet
    refine ⟨W.heap.size + 1, W.heap.size, rfl, rfl, ?_, ?_, ?_, ?_, ?_, ?_, ?_, ?_, ?_, ?_, ?_, ?_, ?_⟩
    all_goals first | (go_cell; done) | omega | (simp; done) | (simp; omega) | go_grown
  case rest =>
    obtain ⟨b9, b10, rfl, rfl, h9, h10, l9, l10, pc0, pc1, pc2, pc3, qc0, qc1, qc2, qc3, hD⟩ := hcut
    have DC : Below w.heap.size w wc := HB0.out.trans (hD.mono HB0.out.size)
    obtain ⟨xc0, xc1, xc2, xc3, yc0, yc1, yc2, yc3, _, _, _, _, _, _, _, _⟩ := G0.out _ hD
    have l0 : w.heap.size < wc.heap.size := by have := hD.size; omega
    have l1 : w.heap.size + 1 < wc.heap.size := by have := hD.size; omega
    clear hD
    go_wp2_with fail
    refine (inL_any a b c d p1 p2 p3 p4 _).mono ?_
    rw [HB1.out]
    rintro e wq1 ⟨he, hb⟩
    obtain rfl : e = .returned (.bool ib1) := he
    have hs1 := hb.size
    (try simp at hs1)
    have DS1 : Below w.heap.size w wq1 := Below.trans (by go_grown) (hb.mono (by have := DC.size; first | omega | (simp; done) | (simp; omega)))
    obtain ⟨k1, k2⟩ := bcl hb
    have xc0_1 := (k1 (w.heap.size) 0 (by first | omega | (simp; done) | (simp; omega))).trans (((Below.refl wc.heap.size wc).cell (p := ⟨w.heap.size, 0, none⟩) (by simp only; omega)).trans xc0)
    have xc1_1 := (k1 (w.heap.size) 1 (by first | omega | (simp; done) | (simp; omega))).trans (((Below.refl wc.heap.size wc).cell (p := ⟨w.heap.size, 1, none⟩) (by simp only; omega)).trans xc1)
    have xc2_1 := (k1 (w.heap.size) 2 (by first | omega | (simp; done) | (simp; omega))).trans (((Below.refl wc.heap.size wc).cell (p := ⟨w.heap.size, 2, none⟩) (by simp only; omega)).trans xc2)
    have xc3_1 := (k1 (w.heap.size) 3 (by first | omega | (simp; done) | (simp; omega))).trans (((Below.refl wc.heap.size wc).cell (p := ⟨w.heap.size, 3, none⟩) (by simp only; omega)).trans xc3)
    have yc0_1 := (k1 (w.heap.size + 1) 0 (by first | omega | (simp; done) | (simp; omega))).trans (((Below.refl wc.heap.size wc).cell (p := ⟨w.heap.size + 1, 0, none⟩) (by simp only; omega)).trans yc0)
    have yc1_1 := (k1 (w.heap.size + 1) 1 (by first | omega | (simp; done) | (simp; omega))).trans (((Below.refl wc.heap.size wc).cell (p := ⟨w.heap.size + 1, 1, none⟩) (by simp only; omega)).trans yc1)
    have yc2_1 := (k1 (w.heap.size + 1) 2 (by first | omega | (simp; done) | (simp; omega))).trans (((Below.refl wc.heap.size wc).cell (p := ⟨w.heap.size + 1, 2, none⟩) (by simp only; omega)).trans yc2)
    have yc3_1 := (k1 (w.heap.size + 1) 3 (by first | omega | (simp; done) | (simp; omega))).trans (((Below.refl wc.heap.size wc).cell (p := ⟨w.heap.size + 1, 3, none⟩) (by simp only; omega)).trans yc3)
    have pc0_1 := (k1 (b9) 0 (by first | omega | (simp; done) | (simp; omega))).trans (((Below.refl wc.heap.size wc).cell (p := ⟨b9, 0, none⟩) (by simp only; omega)).trans pc0)
    have pc1_1 := (k1 (b9) 1 (by first | omega | (simp; done) | (simp; omega))).trans (((Below.refl wc.heap.size wc).cell (p := ⟨b9, 1, none⟩) (by simp only; omega)).trans pc1)
    have pc2_1 := (k1 (b9) 2 (by first | omega | (simp; done) | (simp; omega))).trans (((Below.refl wc.heap.size wc).cell (p := ⟨b9, 2, none⟩) (by simp only; omega)).trans pc2)
    have pc3_1 := (k1 (b9) 3 (by first | omega | (simp; done) | (simp; omega))).trans (((Below.refl wc.heap.size wc).cell (p := ⟨b9, 3, none⟩) (by simp only; omega)).trans pc3)
    have qc0_1 := (k1 (b10) 0 (by first | omega | (simp; done) | (simp; omega))).trans (((Below.refl wc.heap.size wc).cell (p := ⟨b10, 0, none⟩) (by simp only; omega)).trans qc0)
    have qc1_1 := (k1 (b10) 1 (by first | omega | (simp; done) | (simp; omega))).trans (((Below.refl wc.heap.size wc).cell (p := ⟨b10, 1, none⟩) (by simp only; omega)).trans qc1)
    have qc2_1 := (k1 (b10) 2 (by first | omega | (simp; done) | (simp; omega))).trans (((Below.refl wc.heap.size wc).cell (p := ⟨b10, 2, none⟩) (by simp only; omega)).trans qc2)
    have qc3_1 := (k1 (b10) 3 (by first | omega | (simp; done) | (simp; omega))).trans (((Below.refl wc.heap.size wc).cell (p := ⟨b10, 3, none⟩) (by simp only; omega)).trans qc3)
    have l1_0 : w.heap.size < wq1.heap.size := by omega
    have l1_1 : w.heap.size + 1 < wq1.heap.size := by omega
    have l1_2 : b9 < wq1.heap.size := by omega
    have l1_3 : b10 < wq1.heap.size := by omega
    clear hb hs1 k1 k2 xc0 xc1 xc2 xc3 yc0 yc1 yc2 yc3 pc0 pc1 pc2 pc3 qc0 qc1 qc2 qc3 l0 l1 l9 l10 DC
    cases ib1 with
    | false =>
      go_wp2_with fail
      refine (eawake_any _).mono ?_
      rintro e wz ⟨rfl, hb⟩
      have DZ : Below w.heap.size w wz := DS1.trans (hb.mono DS1.size)
      clear hb
      go_wp2_with fail
      go_returns
      exact ⟨rfl, DZ⟩
    | true =>
      go_wp2_with fail
      refine (inL_any s t u v q1 q2 q3 q4 _).mono ?_
      rw [HB2.out]
      rintro e wq2 ⟨he, hb⟩
      obtain rfl : e = .returned (.bool ib2) := he
      have hs2 := hb.size
      (try simp at hs2)
      have DS2 : Below w.heap.size w wq2 := Below.trans (by go_grown) (hb.mono (by have := DS1.size; first | omega | (simp; done) | (simp; omega)))
      obtain ⟨k1, k2⟩ := bcl hb
      have xc0_2 := (k1 (w.heap.size) 0 (by first | omega | (simp; done) | (simp; omega))).trans (((Below.refl wq1.heap.size wq1).cell (p := ⟨w.heap.size, 0, none⟩) (by simp only; omega)).trans xc0_1)
      have xc1_2 := (k1 (w.heap.size) 1 (by first | omega | (simp; done) | (simp; omega))).trans (((Below.refl wq1.heap.size wq1).cell (p := ⟨w.heap.size, 1, none⟩) (by simp only; omega)).trans xc1_1)
      have xc2_2 := (k1 (w.heap.size) 2 (by first | omega | (simp; done) | (simp; omega))).trans (((Below.refl wq1.heap.size wq1).cell (p := ⟨w.heap.size, 2, none⟩) (by simp only; omega)).trans xc2_1)
      have xc3_2 := (k1 (w.heap.size) 3 (by first | omega | (simp; done) | (simp; omega))).trans (((Below.refl wq1.heap.size wq1).cell (p := ⟨w.heap.size, 3, none⟩) (by simp only; omega)).trans xc3_1)
      have yc0_2 := (k1 (w.heap.size + 1) 0 (by first | omega | (simp; done) | (simp; omega))).trans (((Below.refl wq1.heap.size wq1).cell (p := ⟨w.heap.size + 1, 0, none⟩) (by simp only; omega)).trans yc0_1)
      have yc1_2 := (k1 (w.heap.size + 1) 1 (by first | omega | (simp; done) | (simp; omega))).trans (((Below.refl wq1.heap.size wq1).cell (p := ⟨w.heap.size + 1, 1, none⟩) (by simp only; omega)).trans yc1_1)
      have yc2_2 := (k1 (w.heap.size + 1) 2 (by first | omega | (simp; done) | (simp; omega))).trans (((Below.refl wq1.heap.size wq1).cell (p := ⟨w.heap.size + 1, 2, none⟩) (by simp only; omega)).trans yc2_1)
      have yc3_2 := (k1 (w.heap.size + 1) 3 (by first | omega | (simp; done) | (simp; omega))).trans (((Below.refl wq1.heap.size wq1).cell (p := ⟨w.heap.size + 1, 3, none⟩) (by simp only; omega)).trans yc3_1)
      have pc0_2 := (k1 (b9) 0 (by first | omega | (simp; done) | (simp; omega))).trans (((Below.refl wq1.heap.size wq1).cell (p := ⟨b9, 0, none⟩) (by simp only; omega)).trans pc0_1)
      have pc1_2 := (k1 (b9) 1 (by first | omega | (simp; done) | (simp; omega))).trans (((Below.refl wq1.heap.size wq1).cell (p := ⟨b9, 1, none⟩) (by simp only; omega)).trans pc1_1)
      have pc2_2 := (k1 (b9) 2 (by first | omega | (simp; done) | (simp; omega))).trans (((Below.refl wq1.heap.size wq1).cell (p := ⟨b9, 2, none⟩) (by simp only; omega)).trans pc2_1)
      have pc3_2 := (k1 (b9) 3 (by first | omega | (simp; done) | (simp; omega))).trans (((Below.refl wq1.heap.size wq1).cell (p := ⟨b9, 3, none⟩) (by simp only; omega)).trans pc3_1)
      have qc0_2 := (k1 (b10) 0 (by first | omega | (simp; done) | (simp; omega))).trans (((Below.refl wq1.heap.size wq1).cell (p := ⟨b10, 0, none⟩) (by simp only; omega)).trans qc0_1)
      have qc1_2 := (k1 (b10) 1 (by first | omega | (simp; done) | (simp; omega))).trans (((Below.refl wq1.heap.size wq1).cell (p := ⟨b10, 1, none⟩) (by simp only; omega)).trans qc1_1)
      have qc2_2 := (k1 (b10) 2 (by first | omega | (simp; done) | (simp; omega))).trans (((Below.refl wq1.heap.size wq1).cell (p := ⟨b10, 2, none⟩) (by simp only; omega)).trans qc2_1)
      have qc3_2 := (k1 (b10) 3 (by first | omega | (simp; done) | (simp; omega))).trans (((Below.refl wq1.heap.size wq1).cell (p := ⟨b10, 3, none⟩) (by simp only; omega)).trans qc3_1)
      have l2_0 : w.heap.size < wq2.heap.size := by omega
      have l2_1 : w.heap.size + 1 < wq2.heap.size := by omega
      have l2_2 : b9 < wq2.heap.size := by omega
      have l2_3 : b10 < wq2.heap.size := by omega
      clear hb hs2 k1 k2 xc0_1 xc1_1 xc2_1 xc3_1 yc0_1 yc1_1 yc2_1 yc3_1 pc0_1 pc1_1 pc2_1 pc3_1 qc0_1 qc1_1 qc2_1 qc3_1 l1_0 l1_1 l1_2 l1_3 DS1
      cases ib2 with
      | false =>
        go_wp2_with fail
        refine (eawake_any _).mono ?_
        rintro e wz ⟨rfl, hb⟩
        have DZ : Below w.heap.size w wz := DS2.trans (hb.mono DS2.size)
        clear hb
        go_wp2_with fail
        go_returns
        exact ⟨rfl, DZ⟩
      | true =>
        go_upto_block 0 with fail
        have b3 : Below wq2.heap.size wq2 (wq2.alloc (Obj.cells #[.func (Fn.func 15) #[] #[], .func (Fn.func 17) #[] #[], .func (Fn.func 28) #[] #[], .func (Fn.func 30) #[] #[]] 28)) := bal (Below.refl _ _) _
        have DV : Below w.heap.size w (wq2.alloc (Obj.cells #[.func (Fn.func 15) #[] #[], .func (Fn.func 17) #[] #[], .func (Fn.func 28) #[] #[], .func (Fn.func 30) #[] #[]] 28)) := DS2.trans (b3.mono DS2.size)
        have Exc0_2 := (b3.cell (p := ⟨w.heap.size, 0, none⟩) l2_0).trans xc0_2
        have Exc1_2 := (b3.cell (p := ⟨w.heap.size, 1, none⟩) l2_0).trans xc1_2
        have Exc2_2 := (b3.cell (p := ⟨w.heap.size, 2, none⟩) l2_0).trans xc2_2
        have Exc3_2 := (b3.cell (p := ⟨w.heap.size, 3, none⟩) l2_0).trans xc3_2
        have Eyc0_2 := (b3.cell (p := ⟨w.heap.size + 1, 0, none⟩) l2_1).trans yc0_2
        have Eyc1_2 := (b3.cell (p := ⟨w.heap.size + 1, 1, none⟩) l2_1).trans yc1_2
        have Eyc2_2 := (b3.cell (p := ⟨w.heap.size + 1, 2, none⟩) l2_1).trans yc2_2
        have Eyc3_2 := (b3.cell (p := ⟨w.heap.size + 1, 3, none⟩) l2_1).trans yc3_2
        have Epc0_2 := (b3.cell (p := ⟨b9, 0, none⟩) l2_2).trans pc0_2
        have Epc1_2 := (b3.cell (p := ⟨b9, 1, none⟩) l2_2).trans pc1_2
        have Epc2_2 := (b3.cell (p := ⟨b9, 2, none⟩) l2_2).trans pc2_2
        have Epc3_2 := (b3.cell (p := ⟨b9, 3, none⟩) l2_2).trans pc3_2
        have Eqc0_2 := (b3.cell (p := ⟨b10, 0, none⟩) l2_3).trans qc0_2
        have Eqc1_2 := (b3.cell (p := ⟨b10, 1, none⟩) l2_3).trans qc1_2
        have Eqc2_2 := (b3.cell (p := ⟨b10, 2, none⟩) l2_3).trans qc2_2
        have Eqc3_2 := (b3.cell (p := ⟨b10, 3, none⟩) l2_3).trans qc3_2
        have Efc0 : (wq2.alloc (Obj.cells #[.func (Fn.func 15) #[] #[], .func (Fn.func 17) #[] #[], .func (Fn.func 28) #[] #[], .func (Fn.func 30) #[] #[]] 28)).cell? ⟨wq2.heap.size, 0, none⟩ = some (.func (Fn.func 15) #[] #[]) := by go_cell
        have Efc1 : (wq2.alloc (Obj.cells #[.func (Fn.func 15) #[] #[], .func (Fn.func 17) #[] #[], .func (Fn.func 28) #[] #[], .func (Fn.func 30) #[] #[]] 28)).cell? ⟨wq2.heap.size, 1, none⟩ = some (.func (Fn.func 17) #[] #[]) := by go_cell
        have Efc2 : (wq2.alloc (Obj.cells #[.func (Fn.func 15) #[] #[], .func (Fn.func 17) #[] #[], .func (Fn.func 28) #[] #[], .func (Fn.func 30) #[] #[]] 28)).cell? ⟨wq2.heap.size, 2, none⟩ = some (.func (Fn.func 28) #[] #[]) := by go_cell
        have Efc3 : (wq2.alloc (Obj.cells #[.func (Fn.func 15) #[] #[], .func (Fn.func 17) #[] #[], .func (Fn.func 28) #[] #[], .func (Fn.func 30) #[] #[]] 28)).cell? ⟨wq2.heap.size, 3, none⟩ = some (.func (Fn.func 30) #[] #[]) := by go_cell
        have sV : wq2.heap.size < (wq2.alloc (Obj.cells #[.func (Fn.func 15) #[] #[], .func (Fn.func 17) #[] #[], .func (Fn.func 28) #[] #[], .func (Fn.func 30) #[] #[]] 28)).heap.size := by simp
        have sV0 : w.heap.size < (wq2.alloc (Obj.cells #[.func (Fn.func 15) #[] #[], .func (Fn.func 17) #[] #[], .func (Fn.func 28) #[] #[], .func (Fn.func 30) #[] #[]] 28)).heap.size := by simp; omega
        have sV1 : w.heap.size + 1 < (wq2.alloc (Obj.cells #[.func (Fn.func 15) #[] #[], .func (Fn.func 17) #[] #[], .func (Fn.func 28) #[] #[], .func (Fn.func 30) #[] #[]] 28)).heap.size := by simp; omega
        have sV2 : b9 < (wq2.alloc (Obj.cells #[.func (Fn.func 15) #[] #[], .func (Fn.func 17) #[] #[], .func (Fn.func 28) #[] #[], .func (Fn.func 30) #[] #[]] 28)).heap.size := by simp; omega
        have sV3 : b10 < (wq2.alloc (Obj.cells #[.func (Fn.func 15) #[] #[], .func (Fn.func 17) #[] #[], .func (Fn.func 28) #[] #[], .func (Fn.func 30) #[] #[]] 28)).heap.size := by simp; omega
        clear b3 DS2 xc0_2 xc1_2 xc2_2 xc3_2 yc0_2 yc1_2 yc2_2 yc3_2 pc0_2 pc1_2 pc2_2 pc3_2 qc0_2 qc1_2 qc2_2 qc3_2 l2_0 l2_1 l2_2 l2_3
        generalize (wq2.alloc (Obj.cells #[.func (Fn.func 15) #[] #[], .func (Fn.func 17) #[] #[], .func (Fn.func 28) #[] #[], .func (Fn.func 30) #[] #[]] 28)) = V at *
        generalize wq2.heap.size = SB at *
        go_wp2_with fail
        go_loopw [36] (fun iv wr => ∃ n : Nat, iv = .int .i64 n ∧ n ≤ 4 ∧ Hid (Below w.heap.size w wr) ∧ w.heap.size < wr.heap.size ∧ w.heap.size + 1 < wr.heap.size ∧ b9 < wr.heap.size ∧ b10 < wr.heap.size ∧ SB < wr.heap.size ∧ Hid (wr.cell? ⟨w.heap.size, 0, none⟩ = some (.int .i64 a) ∧ wr.cell? ⟨w.heap.size, 1, none⟩ = some (.int .i64 b) ∧ wr.cell? ⟨w.heap.size, 2, none⟩ = some (.int .i64 c) ∧ wr.cell? ⟨w.heap.size, 3, none⟩ = some (.int .i64 d) ∧ wr.cell? ⟨w.heap.size + 1, 0, none⟩ = some (.int .i64 s) ∧ wr.cell? ⟨w.heap.size + 1, 1, none⟩ = some (.int .i64 t) ∧ wr.cell? ⟨w.heap.size + 1, 2, none⟩ = some (.int .i64 u) ∧ wr.cell? ⟨w.heap.size + 1, 3, none⟩ = some (.int .i64 v) ∧ wr.cell? ⟨b9, 0, none⟩ = some (.int .i64 p1) ∧ wr.cell? ⟨b9, 1, none⟩ = some (.int .i64 p2) ∧ wr.cell? ⟨b9, 2, none⟩ = some (.int .i64 p3) ∧ wr.cell? ⟨b9, 3, none⟩ = some (.int .i64 p4) ∧ wr.cell? ⟨b10, 0, none⟩ = some (.int .i64 q1) ∧ wr.cell? ⟨b10, 1, none⟩ = some (.int .i64 q2) ∧ wr.cell? ⟨b10, 2, none⟩ = some (.int .i64 q3) ∧ wr.cell? ⟨b10, 3, none⟩ = some (.int .i64 q4) ∧ wr.cell? ⟨SB, 0, none⟩ = some (.func (Fn.func 15) #[] #[]) ∧ wr.cell? ⟨SB, 1, none⟩ = some (.func (Fn.func 17) #[] #[]) ∧ wr.cell? ⟨SB, 2, none⟩ = some (.func (Fn.func 28) #[] #[]) ∧ wr.cell? ⟨SB, 3, none⟩ = some (.func (Fn.func 30) #[] #[]))) (fun iv _ => 4 - (intOf iv).toNat)
        case atStart => exact ⟨0, rfl, by omega, Lib.hid DV, sV0, sV1, sV2, sV3, sV, Lib.hid ⟨Exc0_2, Exc1_2, Exc2_2, Exc3_2, Eyc0_2, Eyc1_2, Eyc2_2, Eyc3_2, Epc0_2, Epc1_2, Epc2_2, Epc3_2, Eqc0_2, Eqc1_2, Eqc2_2, Eqc3_2, Efc0, Efc1, Efc2, Efc3⟩⟩
        case round =>
          obtain ⟨n, rfl, hn, HDB, t0, t1, t2, t3, t4, HF⟩ := hrel
          by_cases hlt : n < 4
          case neg =>
            obtain rfl : n = 4 := by omega
            have DB := HDB.out
            go_wp2_with fail
            refine (eawake_any _).mono ?_
            rintro e wz ⟨rfl, hb⟩
            have DZ : Below w.heap.size w wz := DB.trans (hb.mono DB.size)
            clear hb
            go_wp2_with fail
            go_returns
            exact ⟨rfl, DZ⟩
          obtain ⟨xc0, xc1, xc2, xc3, yc0, yc1, yc2, yc3, pc0, pc1, pc2, pc3, qc0, qc1, qc2, qc3, fc0, fc1, fc2, fc3⟩ := HF.out
          have DB := HDB.out
          clear HF HDB hn
          rcases (show n = 0 ∨ n = 1 ∨ n = 2 ∨ n = 3 by omega) with rfl | rfl | rfl | rfl
          · rcases grow_of (F := addR) HB1.out HB2.out (fun r hr => addR_mono ((inside_iff _ _).1 HB1.out).2.2 ((inside_iff _ _).1 HB2.out).2.2 ((inside_iff _ _).1 HB1.out).1 ((inside_iff _ _).1 HB2.out).1 hr) (fun _ _ _ h => addR_ok h) ne0_addR with ⟨a1, a2, a3, a4, b1, b2, b3, b4, ha, hb, hin⟩ | ⟨a1, a2, a3, a4, b1, b2, b3, b4, er, ek, ha, hb, hne⟩
            · have HA := Lib.hid ha
              have HB := Lib.hid hb
              have HIN := Lib.hid hin
              clear ha hb hin
              go_wp2_with fail
              refine (eAdd_any a b c d s t u v _).mono ?_
              rw [HA.out]
              rintro e wq111 ⟨he, hb⟩
              obtain rfl : e = .returned (.tuple #[.agg #[.int .i64 a1, .int .i64 a2, .int .i64 a3, .int .i64 a4], .int .i64 0]) := he
              have hs111 := hb.size
              (try simp at hs111)
              have DS111 : Below w.heap.size w wq111 := Below.trans (by go_grown) (hb.mono (by have := DB.size; first | omega | (simp; done) | (simp; omega)))
              obtain ⟨k1, k2⟩ := bcl hb
              have xc0_111 := (k1 (w.heap.size) 0 (by first | omega | (simp; done) | (simp; omega))).trans (((Below.refl wr.heap.size wr).cell (p := ⟨w.heap.size, 0, none⟩) (by simp only; omega)).trans xc0)
              have xc1_111 := (k1 (w.heap.size) 1 (by first | omega | (simp; done) | (simp; omega))).trans (((Below.refl wr.heap.size wr).cell (p := ⟨w.heap.size, 1, none⟩) (by simp only; omega)).trans xc1)
              have xc2_111 := (k1 (w.heap.size) 2 (by first | omega | (simp; done) | (simp; omega))).trans (((Below.refl wr.heap.size wr).cell (p := ⟨w.heap.size, 2, none⟩) (by simp only; omega)).trans xc2)
              have xc3_111 := (k1 (w.heap.size) 3 (by first | omega | (simp; done) | (simp; omega))).trans (((Below.refl wr.heap.size wr).cell (p := ⟨w.heap.size, 3, none⟩) (by simp only; omega)).trans xc3)
              have yc0_111 := (k1 (w.heap.size + 1) 0 (by first | omega | (simp; done) | (simp; omega))).trans (((Below.refl wr.heap.size wr).cell (p := ⟨w.heap.size + 1, 0, none⟩) (by simp only; omega)).trans yc0)
              have yc1_111 := (k1 (w.heap.size + 1) 1 (by first | omega | (simp; done) | (simp; omega))).trans (((Below.refl wr.heap.size wr).cell (p := ⟨w.heap.size + 1, 1, none⟩) (by simp only; omega)).trans yc1)
              have yc2_111 := (k1 (w.heap.size + 1) 2 (by first | omega | (simp; done) | (simp; omega))).trans (((Below.refl wr.heap.size wr).cell (p := ⟨w.heap.size + 1, 2, none⟩) (by simp only; omega)).trans yc2)
              have yc3_111 := (k1 (w.heap.size + 1) 3 (by first | omega | (simp; done) | (simp; omega))).trans (((Below.refl wr.heap.size wr).cell (p := ⟨w.heap.size + 1, 3, none⟩) (by simp only; omega)).trans yc3)
              have pc0_111 := (k1 (b9) 0 (by first | omega | (simp; done) | (simp; omega))).trans (((Below.refl wr.heap.size wr).cell (p := ⟨b9, 0, none⟩) (by simp only; omega)).trans pc0)
              have pc1_111 := (k1 (b9) 1 (by first | omega | (simp; done) | (simp; omega))).trans (((Below.refl wr.heap.size wr).cell (p := ⟨b9, 1, none⟩) (by simp only; omega)).trans pc1)
              have pc2_111 := (k1 (b9) 2 (by first | omega | (simp; done) | (simp; omega))).trans (((Below.refl wr.heap.size wr).cell (p := ⟨b9, 2, none⟩) (by simp only; omega)).trans pc2)
              have pc3_111 := (k1 (b9) 3 (by first | omega | (simp; done) | (simp; omega))).trans (((Below.refl wr.heap.size wr).cell (p := ⟨b9, 3, none⟩) (by simp only; omega)).trans pc3)
              have qc0_111 := (k1 (b10) 0 (by first | omega | (simp; done) | (simp; omega))).trans (((Below.refl wr.heap.size wr).cell (p := ⟨b10, 0, none⟩) (by simp only; omega)).trans qc0)
              have qc1_111 := (k1 (b10) 1 (by first | omega | (simp; done) | (simp; omega))).trans (((Below.refl wr.heap.size wr).cell (p := ⟨b10, 1, none⟩) (by simp only; omega)).trans qc1)
              have qc2_111 := (k1 (b10) 2 (by first | omega | (simp; done) | (simp; omega))).trans (((Below.refl wr.heap.size wr).cell (p := ⟨b10, 2, none⟩) (by simp only; omega)).trans qc2)
              have qc3_111 := (k1 (b10) 3 (by first | omega | (simp; done) | (simp; omega))).trans (((Below.refl wr.heap.size wr).cell (p := ⟨b10, 3, none⟩) (by simp only; omega)).trans qc3)
              have fc0_111 := (k1 (SB) 0 (by first | omega | (simp; done) | (simp; omega))).trans (((Below.refl wr.heap.size wr).cell (p := ⟨SB, 0, none⟩) (by simp only; omega)).trans fc0)
              have fc1_111 := (k1 (SB) 1 (by first | omega | (simp; done) | (simp; omega))).trans (((Below.refl wr.heap.size wr).cell (p := ⟨SB, 1, none⟩) (by simp only; omega)).trans fc1)
              have fc2_111 := (k1 (SB) 2 (by first | omega | (simp; done) | (simp; omega))).trans (((Below.refl wr.heap.size wr).cell (p := ⟨SB, 2, none⟩) (by simp only; omega)).trans fc2)
              have fc3_111 := (k1 (SB) 3 (by first | omega | (simp; done) | (simp; omega))).trans (((Below.refl wr.heap.size wr).cell (p := ⟨SB, 3, none⟩) (by simp only; omega)).trans fc3)
              have l111_0 : w.heap.size < wq111.heap.size := by omega
              have l111_1 : w.heap.size + 1 < wq111.heap.size := by omega
              have l111_2 : b9 < wq111.heap.size := by omega
              have l111_3 : b10 < wq111.heap.size := by omega
              have l111_4 : SB < wq111.heap.size := by omega
              clear hb hs111 k1 k2 xc0 xc1 xc2 xc3 yc0 yc1 yc2 yc3 pc0 pc1 pc2 pc3 qc0 qc1 qc2 qc3 fc0 fc1 fc2 fc3 t0 t1 t2 t3 t4 DB
              go_wp2_with fail
              refine (eAdd_any p1 p2 p3 p4 q1 q2 q3 q4 _).mono ?_
              rw [HB.out]
              rintro e wq112 ⟨he, hb⟩
              obtain rfl : e = .returned (.tuple #[.agg #[.int .i64 b1, .int .i64 b2, .int .i64 b3, .int .i64 b4], .int .i64 0]) := he
              have hs112 := hb.size
              (try simp at hs112)
              have DS112 : Below w.heap.size w wq112 := Below.trans (by go_grown) (hb.mono (by have := DS111.size; first | omega | (simp; done) | (simp; omega)))
              obtain ⟨k1, k2⟩ := bcl hb
              have xc0_112 := (k1 (w.heap.size) 0 (by first | omega | (simp; done) | (simp; omega))).trans (((bal (Below.refl wq111.heap.size wq111) (Obj.cells #[.int .i64 a1, .int .i64 a2, .int .i64 a3, .int .i64 a4] 25)).cell (p := ⟨w.heap.size, 0, none⟩) (by simp only; omega)).trans xc0_111)
              have xc1_112 := (k1 (w.heap.size) 1 (by first | omega | (simp; done) | (simp; omega))).trans (((bal (Below.refl wq111.heap.size wq111) (Obj.cells #[.int .i64 a1, .int .i64 a2, .int .i64 a3, .int .i64 a4] 25)).cell (p := ⟨w.heap.size, 1, none⟩) (by simp only; omega)).trans xc1_111)
              have xc2_112 := (k1 (w.heap.size) 2 (by first | omega | (simp; done) | (simp; omega))).trans (((bal (Below.refl wq111.heap.size wq111) (Obj.cells #[.int .i64 a1, .int .i64 a2, .int .i64 a3, .int .i64 a4] 25)).cell (p := ⟨w.heap.size, 2, none⟩) (by simp only; omega)).trans xc2_111)
              have xc3_112 := (k1 (w.heap.size) 3 (by first | omega | (simp; done) | (simp; omega))).trans (((bal (Below.refl wq111.heap.size wq111) (Obj.cells #[.int .i64 a1, .int .i64 a2, .int .i64 a3, .int .i64 a4] 25)).cell (p := ⟨w.heap.size, 3, none⟩) (by simp only; omega)).trans xc3_111)
              have yc0_112 := (k1 (w.heap.size + 1) 0 (by first | omega | (simp; done) | (simp; omega))).trans (((bal (Below.refl wq111.heap.size wq111) (Obj.cells #[.int .i64 a1, .int .i64 a2, .int .i64 a3, .int .i64 a4] 25)).cell (p := ⟨w.heap.size + 1, 0, none⟩) (by simp only; omega)).trans yc0_111)
              have yc1_112 := (k1 (w.heap.size + 1) 1 (by first | omega | (simp; done) | (simp; omega))).trans (((bal (Below.refl wq111.heap.size wq111) (Obj.cells #[.int .i64 a1, .int .i64 a2, .int .i64 a3, .int .i64 a4] 25)).cell (p := ⟨w.heap.size + 1, 1, none⟩) (by simp only; omega)).trans yc1_111)
              have yc2_112 := (k1 (w.heap.size + 1) 2 (by first | omega | (simp; done) | (simp; omega))).trans (((bal (Below.refl wq111.heap.size wq111) (Obj.cells #[.int .i64 a1, .int .i64 a2, .int .i64 a3, .int .i64 a4] 25)).cell (p := ⟨w.heap.size + 1, 2, none⟩) (by simp only; omega)).trans yc2_111)
              have yc3_112 := (k1 (w.heap.size + 1) 3 (by first | omega | (simp; done) | (simp; omega))).trans (((bal (Below.refl wq111.heap.size wq111) (Obj.cells #[.int .i64 a1, .int .i64 a2, .int .i64 a3, .int .i64 a4] 25)).cell (p := ⟨w.heap.size + 1, 3, none⟩) (by simp only; omega)).trans yc3_111)
              have pc0_112 := (k1 (b9) 0 (by first | omega | (simp; done) | (simp; omega))).trans (((bal (Below.refl wq111.heap.size wq111) (Obj.cells #[.int .i64 a1, .int .i64 a2, .int .i64 a3, .int .i64 a4] 25)).cell (p := ⟨b9, 0, none⟩) (by simp only; omega)).trans pc0_111)
              have pc1_112 := (k1 (b9) 1 (by first | omega | (simp; done) | (simp; omega))).trans (((bal (Below.refl wq111.heap.size wq111) (Obj.cells #[.int .i64 a1, .int .i64 a2, .int .i64 a3, .int .i64 a4] 25)).cell (p := ⟨b9, 1, none⟩) (by simp only; omega)).trans pc1_111)
              have pc2_112 := (k1 (b9) 2 (by first | omega | (simp; done) | (simp; omega))).trans (((bal (Below.refl wq111.heap.size wq111) (Obj.cells #[.int .i64 a1, .int .i64 a2, .int .i64 a3, .int .i64 a4] 25)).cell (p := ⟨b9, 2, none⟩) (by simp only; omega)).trans pc2_111)
              have pc3_112 := (k1 (b9) 3 (by first | omega | (simp; done) | (simp; omega))).trans (((bal (Below.refl wq111.heap.size wq111) (Obj.cells #[.int .i64 a1, .int .i64 a2, .int .i64 a3, .int .i64 a4] 25)).cell (p := ⟨b9, 3, none⟩) (by simp only; omega)).trans pc3_111)
              have qc0_112 := (k1 (b10) 0 (by first | omega | (simp; done) | (simp; omega))).trans (((bal (Below.refl wq111.heap.size wq111) (Obj.cells #[.int .i64 a1, .int .i64 a2, .int .i64 a3, .int .i64 a4] 25)).cell (p := ⟨b10, 0, none⟩) (by simp only; omega)).trans qc0_111)
              have qc1_112 := (k1 (b10) 1 (by first | omega | (simp; done) | (simp; omega))).trans (((bal (Below.refl wq111.heap.size wq111) (Obj.cells #[.int .i64 a1, .int .i64 a2, .int .i64 a3, .int .i64 a4] 25)).cell (p := ⟨b10, 1, none⟩) (by simp only; omega)).trans qc1_111)
              have qc2_112 := (k1 (b10) 2 (by first | omega | (simp; done) | (simp; omega))).trans (((bal (Below.refl wq111.heap.size wq111) (Obj.cells #[.int .i64 a1, .int .i64 a2, .int .i64 a3, .int .i64 a4] 25)).cell (p := ⟨b10, 2, none⟩) (by simp only; omega)).trans qc2_111)
              have qc3_112 := (k1 (b10) 3 (by first | omega | (simp; done) | (simp; omega))).trans (((bal (Below.refl wq111.heap.size wq111) (Obj.cells #[.int .i64 a1, .int .i64 a2, .int .i64 a3, .int .i64 a4] 25)).cell (p := ⟨b10, 3, none⟩) (by simp only; omega)).trans qc3_111)
              have fc0_112 := (k1 (SB) 0 (by first | omega | (simp; done) | (simp; omega))).trans (((bal (Below.refl wq111.heap.size wq111) (Obj.cells #[.int .i64 a1, .int .i64 a2, .int .i64 a3, .int .i64 a4] 25)).cell (p := ⟨SB, 0, none⟩) (by simp only; omega)).trans fc0_111)
              have fc1_112 := (k1 (SB) 1 (by first | omega | (simp; done) | (simp; omega))).trans (((bal (Below.refl wq111.heap.size wq111) (Obj.cells #[.int .i64 a1, .int .i64 a2, .int .i64 a3, .int .i64 a4] 25)).cell (p := ⟨SB, 1, none⟩) (by simp only; omega)).trans fc1_111)
              have fc2_112 := (k1 (SB) 2 (by first | omega | (simp; done) | (simp; omega))).trans (((bal (Below.refl wq111.heap.size wq111) (Obj.cells #[.int .i64 a1, .int .i64 a2, .int .i64 a3, .int .i64 a4] 25)).cell (p := ⟨SB, 2, none⟩) (by simp only; omega)).trans fc2_111)
              have fc3_112 := (k1 (SB) 3 (by first | omega | (simp; done) | (simp; omega))).trans (((bal (Below.refl wq111.heap.size wq111) (Obj.cells #[.int .i64 a1, .int .i64 a2, .int .i64 a3, .int .i64 a4] 25)).cell (p := ⟨SB, 3, none⟩) (by simp only; omega)).trans fc3_111)
              have an0_112 := (k1 (wq111.heap.size) 0 (by first | omega | (simp; done) | (simp; omega))).trans (by go_cell : _ = some (.int .i64 a1))
              have an1_112 := (k1 (wq111.heap.size) 1 (by first | omega | (simp; done) | (simp; omega))).trans (by go_cell : _ = some (.int .i64 a2))
              have an2_112 := (k1 (wq111.heap.size) 2 (by first | omega | (simp; done) | (simp; omega))).trans (by go_cell : _ = some (.int .i64 a3))
              have an3_112 := (k1 (wq111.heap.size) 3 (by first | omega | (simp; done) | (simp; omega))).trans (by go_cell : _ = some (.int .i64 a4))
              have l112_0 : w.heap.size < wq112.heap.size := by omega
              have l112_1 : w.heap.size + 1 < wq112.heap.size := by omega
              have l112_2 : b9 < wq112.heap.size := by omega
              have l112_3 : b10 < wq112.heap.size := by omega
              have l112_4 : SB < wq112.heap.size := by omega
              have l112_5 : wq111.heap.size < wq112.heap.size := by omega
              clear hb hs112 k1 k2 xc0_111 xc1_111 xc2_111 xc3_111 yc0_111 yc1_111 yc2_111 yc3_111 pc0_111 pc1_111 pc2_111 pc3_111 qc0_111 qc1_111 qc2_111 qc3_111 fc0_111 fc1_111 fc2_111 fc3_111 l111_0 l111_1 l111_2 l111_3 l111_4 DS111
              go_wp2_with fail
              refine (inL_any a1 a2 a3 a4 b1 b2 b3 b4 _).mono ?_
              rw [HIN.out]
              rintro e wq113 ⟨he, hb⟩
              obtain rfl : e = .returned (.bool true) := he
              have hs113 := hb.size
              (try simp at hs113)
              have DS113 : Below w.heap.size w wq113 := Below.trans (by go_grown) (hb.mono (by have := DS112.size; first | omega | (simp; done) | (simp; omega)))
              obtain ⟨k1, k2⟩ := bcl hb
              have xc0_113 := (k1 (w.heap.size) 0 (by first | omega | (simp; done) | (simp; omega))).trans (((bal (Below.refl wq112.heap.size wq112) (Obj.cells #[.int .i64 b1, .int .i64 b2, .int .i64 b3, .int .i64 b4] 25)).cell (p := ⟨w.heap.size, 0, none⟩) (by simp only; omega)).trans xc0_112)
              have xc1_113 := (k1 (w.heap.size) 1 (by first | omega | (simp; done) | (simp; omega))).trans (((bal (Below.refl wq112.heap.size wq112) (Obj.cells #[.int .i64 b1, .int .i64 b2, .int .i64 b3, .int .i64 b4] 25)).cell (p := ⟨w.heap.size, 1, none⟩) (by simp only; omega)).trans xc1_112)
              have xc2_113 := (k1 (w.heap.size) 2 (by first | omega | (simp; done) | (simp; omega))).trans (((bal (Below.refl wq112.heap.size wq112) (Obj.cells #[.int .i64 b1, .int .i64 b2, .int .i64 b3, .int .i64 b4] 25)).cell (p := ⟨w.heap.size, 2, none⟩) (by simp only; omega)).trans xc2_112)
              have xc3_113 := (k1 (w.heap.size) 3 (by first | omega | (simp; done) | (simp; omega))).trans (((bal (Below.refl wq112.heap.size wq112) (Obj.cells #[.int .i64 b1, .int .i64 b2, .int .i64 b3, .int .i64 b4] 25)).cell (p := ⟨w.heap.size, 3, none⟩) (by simp only; omega)).trans xc3_112)
              have yc0_113 := (k1 (w.heap.size + 1) 0 (by first | omega | (simp; done) | (simp; omega))).trans (((bal (Below.refl wq112.heap.size wq112) (Obj.cells #[.int .i64 b1, .int .i64 b2, .int .i64 b3, .int .i64 b4] 25)).cell (p := ⟨w.heap.size + 1, 0, none⟩) (by simp only; omega)).trans yc0_112)
              have yc1_113 := (k1 (w.heap.size + 1) 1 (by first | omega | (simp; done) | (simp; omega))).trans (((bal (Below.refl wq112.heap.size wq112) (Obj.cells #[.int .i64 b1, .int .i64 b2, .int .i64 b3, .int .i64 b4] 25)).cell (p := ⟨w.heap.size + 1, 1, none⟩) (by simp only; omega)).trans yc1_112)
              have yc2_113 := (k1 (w.heap.size + 1) 2 (by first | omega | (simp; done) | (simp; omega))).trans (((bal (Below.refl wq112.heap.size wq112) (Obj.cells #[.int .i64 b1, .int .i64 b2, .int .i64 b3, .int .i64 b4] 25)).cell (p := ⟨w.heap.size + 1, 2, none⟩) (by simp only; omega)).trans yc2_112)
              have yc3_113 := (k1 (w.heap.size + 1) 3 (by first | omega | (simp; done) | (simp; omega))).trans (((bal (Below.refl wq112.heap.size wq112) (Obj.cells #[.int .i64 b1, .int .i64 b2, .int .i64 b3, .int .i64 b4] 25)).cell (p := ⟨w.heap.size + 1, 3, none⟩) (by simp only; omega)).trans yc3_112)
              have pc0_113 := (k1 (b9) 0 (by first | omega | (simp; done) | (simp; omega))).trans (((bal (Below.refl wq112.heap.size wq112) (Obj.cells #[.int .i64 b1, .int .i64 b2, .int .i64 b3, .int .i64 b4] 25)).cell (p := ⟨b9, 0, none⟩) (by simp only; omega)).trans pc0_112)
              have pc1_113 := (k1 (b9) 1 (by first | omega | (simp; done) | (simp; omega))).trans (((bal (Below.refl wq112.heap.size wq112) (Obj.cells #[.int .i64 b1, .int .i64 b2, .int .i64 b3, .int .i64 b4] 25)).cell (p := ⟨b9, 1, none⟩) (by simp only; omega)).trans pc1_112)
              have pc2_113 := (k1 (b9) 2 (by first | omega | (simp; done) | (simp; omega))).trans (((bal (Below.refl wq112.heap.size wq112) (Obj.cells #[.int .i64 b1, .int .i64 b2, .int .i64 b3, .int .i64 b4] 25)).cell (p := ⟨b9, 2, none⟩) (by simp only; omega)).trans pc2_112)
              have pc3_113 := (k1 (b9) 3 (by first | omega | (simp; done) | (simp; omega))).trans (((bal (Below.refl wq112.heap.size wq112) (Obj.cells #[.int .i64 b1, .int .i64 b2, .int .i64 b3, .int .i64 b4] 25)).cell (p := ⟨b9, 3, none⟩) (by simp only; omega)).trans pc3_112)
              have qc0_113 := (k1 (b10) 0 (by first | omega | (simp; done) | (simp; omega))).trans (((bal (Below.refl wq112.heap.size wq112) (Obj.cells #[.int .i64 b1, .int .i64 b2, .int .i64 b3, .int .i64 b4] 25)).cell (p := ⟨b10, 0, none⟩) (by simp only; omega)).trans qc0_112)
              have qc1_113 := (k1 (b10) 1 (by first | omega | (simp; done) | (simp; omega))).trans (((bal (Below.refl wq112.heap.size wq112) (Obj.cells #[.int .i64 b1, .int .i64 b2, .int .i64 b3, .int .i64 b4] 25)).cell (p := ⟨b10, 1, none⟩) (by simp only; omega)).trans qc1_112)
              have qc2_113 := (k1 (b10) 2 (by first | omega | (simp; done) | (simp; omega))).trans (((bal (Below.refl wq112.heap.size wq112) (Obj.cells #[.int .i64 b1, .int .i64 b2, .int .i64 b3, .int .i64 b4] 25)).cell (p := ⟨b10, 2, none⟩) (by simp only; omega)).trans qc2_112)
              have qc3_113 := (k1 (b10) 3 (by first | omega | (simp; done) | (simp; omega))).trans (((bal (Below.refl wq112.heap.size wq112) (Obj.cells #[.int .i64 b1, .int .i64 b2, .int .i64 b3, .int .i64 b4] 25)).cell (p := ⟨b10, 3, none⟩) (by simp only; omega)).trans qc3_112)
              have fc0_113 := (k1 (SB) 0 (by first | omega | (simp; done) | (simp; omega))).trans (((bal (Below.refl wq112.heap.size wq112) (Obj.cells #[.int .i64 b1, .int .i64 b2, .int .i64 b3, .int .i64 b4] 25)).cell (p := ⟨SB, 0, none⟩) (by simp only; omega)).trans fc0_112)
              have fc1_113 := (k1 (SB) 1 (by first | omega | (simp; done) | (simp; omega))).trans (((bal (Below.refl wq112.heap.size wq112) (Obj.cells #[.int .i64 b1, .int .i64 b2, .int .i64 b3, .int .i64 b4] 25)).cell (p := ⟨SB, 1, none⟩) (by simp only; omega)).trans fc1_112)
              have fc2_113 := (k1 (SB) 2 (by first | omega | (simp; done) | (simp; omega))).trans (((bal (Below.refl wq112.heap.size wq112) (Obj.cells #[.int .i64 b1, .int .i64 b2, .int .i64 b3, .int .i64 b4] 25)).cell (p := ⟨SB, 2, none⟩) (by simp only; omega)).trans fc2_112)
              have fc3_113 := (k1 (SB) 3 (by first | omega | (simp; done) | (simp; omega))).trans (((bal (Below.refl wq112.heap.size wq112) (Obj.cells #[.int .i64 b1, .int .i64 b2, .int .i64 b3, .int .i64 b4] 25)).cell (p := ⟨SB, 3, none⟩) (by simp only; omega)).trans fc3_112)
              have l113_0 : w.heap.size < wq113.heap.size := by omega
              have l113_1 : w.heap.size + 1 < wq113.heap.size := by omega
              have l113_2 : b9 < wq113.heap.size := by omega
              have l113_3 : b10 < wq113.heap.size := by omega
              have l113_4 : SB < wq113.heap.size := by omega
              clear hb hs113 k1 k2 xc0_112 xc1_112 xc2_112 xc3_112 yc0_112 yc1_112 yc2_112 yc3_112 pc0_112 pc1_112 pc2_112 pc3_112 qc0_112 qc1_112 qc2_112 qc3_112 fc0_112 fc1_112 fc2_112 fc3_112 an0_112 an1_112 an2_112 an3_112 l112_0 l112_1 l112_2 l112_3 l112_4 l112_5 DS112
              have DL := DS113
              go_wp2_with fail
              go_roundw
              case rel =>
                refine ⟨1, by first | rfl | go_num, by omega, Lib.hid (by go_grown), ?_, ?_, ?_, ?_, ?_, Lib.hid ?_⟩
                · first | omega | (simp; done) | (simp; omega)
                · first | omega | (simp; done) | (simp; omega)
                · first | omega | (simp; done) | (simp; omega)
                · first | omega | (simp; done) | (simp; omega)
                · first | omega | (simp; done) | (simp; omega)
                · refine ⟨?_, ?_, ?_, ?_, ?_, ?_, ?_, ?_, ?_, ?_, ?_, ?_, ?_, ?_, ?_, ?_, ?_, ?_, ?_, ?_⟩ <;> first | assumption | go_cell
              case measure => first | (simp [intOf]; done) | (simp [intOf]; omega)
            · have HA := Lib.hid ha
              have HB := Lib.hid hb
              have hk1 : (ek == 0) = false := beq_eq_false_iff_ne.2 hne
              have hk2 : (ek != 0) = true := bne_iff_ne.2 hne
              clear ha hb
              go_wp2_with fail
              refine (eAdd_any a b c d s t u v _).mono ?_
              rw [HA.out]
              rintro e wq121 ⟨he, hb⟩
              obtain rfl : e = .returned (.tuple #[.agg #[.int .i64 a1, .int .i64 a2, .int .i64 a3, .int .i64 a4], .int .i64 er]) := he
              have hs121 := hb.size
              (try simp at hs121)
              have DS121 : Below w.heap.size w wq121 := Below.trans (by go_grown) (hb.mono (by have := DB.size; first | omega | (simp; done) | (simp; omega)))
              obtain ⟨k1, k2⟩ := bcl hb
              have xc0_121 := (k1 (w.heap.size) 0 (by first | omega | (simp; done) | (simp; omega))).trans (((Below.refl wr.heap.size wr).cell (p := ⟨w.heap.size, 0, none⟩) (by simp only; omega)).trans xc0)
              have xc1_121 := (k1 (w.heap.size) 1 (by first | omega | (simp; done) | (simp; omega))).trans (((Below.refl wr.heap.size wr).cell (p := ⟨w.heap.size, 1, none⟩) (by simp only; omega)).trans xc1)
              have xc2_121 := (k1 (w.heap.size) 2 (by first | omega | (simp; done) | (simp; omega))).trans (((Below.refl wr.heap.size wr).cell (p := ⟨w.heap.size, 2, none⟩) (by simp only; omega)).trans xc2)
              have xc3_121 := (k1 (w.heap.size) 3 (by first | omega | (simp; done) | (simp; omega))).trans (((Below.refl wr.heap.size wr).cell (p := ⟨w.heap.size, 3, none⟩) (by simp only; omega)).trans xc3)
              have yc0_121 := (k1 (w.heap.size + 1) 0 (by first | omega | (simp; done) | (simp; omega))).trans (((Below.refl wr.heap.size wr).cell (p := ⟨w.heap.size + 1, 0, none⟩) (by simp only; omega)).trans yc0)
              have yc1_121 := (k1 (w.heap.size + 1) 1 (by first | omega | (simp; done) | (simp; omega))).trans (((Below.refl wr.heap.size wr).cell (p := ⟨w.heap.size + 1, 1, none⟩) (by simp only; omega)).trans yc1)
              have yc2_121 := (k1 (w.heap.size + 1) 2 (by first | omega | (simp; done) | (simp; omega))).trans (((Below.refl wr.heap.size wr).cell (p := ⟨w.heap.size + 1, 2, none⟩) (by simp only; omega)).trans yc2)
              have yc3_121 := (k1 (w.heap.size + 1) 3 (by first | omega | (simp; done) | (simp; omega))).trans (((Below.refl wr.heap.size wr).cell (p := ⟨w.heap.size + 1, 3, none⟩) (by simp only; omega)).trans yc3)
              have pc0_121 := (k1 (b9) 0 (by first | omega | (simp; done) | (simp; omega))).trans (((Below.refl wr.heap.size wr).cell (p := ⟨b9, 0, none⟩) (by simp only; omega)).trans pc0)
              have pc1_121 := (k1 (b9) 1 (by first | omega | (simp; done) | (simp; omega))).trans (((Below.refl wr.heap.size wr).cell (p := ⟨b9, 1, none⟩) (by simp only; omega)).trans pc1)
              have pc2_121 := (k1 (b9) 2 (by first | omega | (simp; done) | (simp; omega))).trans (((Below.refl wr.heap.size wr).cell (p := ⟨b9, 2, none⟩) (by simp only; omega)).trans pc2)
              have pc3_121 := (k1 (b9) 3 (by first | omega | (simp; done) | (simp; omega))).trans (((Below.refl wr.heap.size wr).cell (p := ⟨b9, 3, none⟩) (by simp only; omega)).trans pc3)
              have qc0_121 := (k1 (b10) 0 (by first | omega | (simp; done) | (simp; omega))).trans (((Below.refl wr.heap.size wr).cell (p := ⟨b10, 0, none⟩) (by simp only; omega)).trans qc0)
              have qc1_121 := (k1 (b10) 1 (by first | omega | (simp; done) | (simp; omega))).trans (((Below.refl wr.heap.size wr).cell (p := ⟨b10, 1, none⟩) (by simp only; omega)).trans qc1)
              have qc2_121 := (k1 (b10) 2 (by first | omega | (simp; done) | (simp; omega))).trans (((Below.refl wr.heap.size wr).cell (p := ⟨b10, 2, none⟩) (by simp only; omega)).trans qc2)
              have qc3_121 := (k1 (b10) 3 (by first | omega | (simp; done) | (simp; omega))).trans (((Below.refl wr.heap.size wr).cell (p := ⟨b10, 3, none⟩) (by simp only; omega)).trans qc3)
              have fc0_121 := (k1 (SB) 0 (by first | omega | (simp; done) | (simp; omega))).trans (((Below.refl wr.heap.size wr).cell (p := ⟨SB, 0, none⟩) (by simp only; omega)).trans fc0)
              have fc1_121 := (k1 (SB) 1 (by first | omega | (simp; done) | (simp; omega))).trans (((Below.refl wr.heap.size wr).cell (p := ⟨SB, 1, none⟩) (by simp only; omega)).trans fc1)
              have fc2_121 := (k1 (SB) 2 (by first | omega | (simp; done) | (simp; omega))).trans (((Below.refl wr.heap.size wr).cell (p := ⟨SB, 2, none⟩) (by simp only; omega)).trans fc2)
              have fc3_121 := (k1 (SB) 3 (by first | omega | (simp; done) | (simp; omega))).trans (((Below.refl wr.heap.size wr).cell (p := ⟨SB, 3, none⟩) (by simp only; omega)).trans fc3)
              have l121_0 : w.heap.size < wq121.heap.size := by omega
              have l121_1 : w.heap.size + 1 < wq121.heap.size := by omega
              have l121_2 : b9 < wq121.heap.size := by omega
              have l121_3 : b10 < wq121.heap.size := by omega
              have l121_4 : SB < wq121.heap.size := by omega
              clear hb hs121 k1 k2 xc0 xc1 xc2 xc3 yc0 yc1 yc2 yc3 pc0 pc1 pc2 pc3 qc0 qc1 qc2 qc3 fc0 fc1 fc2 fc3 t0 t1 t2 t3 t4 DB
              go_wp2_with fail
              refine (eAdd_any p1 p2 p3 p4 q1 q2 q3 q4 _).mono ?_
              rw [HB.out]
              rintro e wq122 ⟨he, hb⟩
              obtain rfl : e = .returned (.tuple #[.agg #[.int .i64 b1, .int .i64 b2, .int .i64 b3, .int .i64 b4], .int .i64 ek]) := he
              have hs122 := hb.size
              (try simp at hs122)
              have DS122 : Below w.heap.size w wq122 := Below.trans (by go_grown) (hb.mono (by have := DS121.size; first | omega | (simp; done) | (simp; omega)))
              obtain ⟨k1, k2⟩ := bcl hb
              have xc0_122 := (k1 (w.heap.size) 0 (by first | omega | (simp; done) | (simp; omega))).trans (((bal (Below.refl wq121.heap.size wq121) (Obj.cells #[.int .i64 a1, .int .i64 a2, .int .i64 a3, .int .i64 a4] 25)).cell (p := ⟨w.heap.size, 0, none⟩) (by simp only; omega)).trans xc0_121)
              have xc1_122 := (k1 (w.heap.size) 1 (by first | omega | (simp; done) | (simp; omega))).trans (((bal (Below.refl wq121.heap.size wq121) (Obj.cells #[.int .i64 a1, .int .i64 a2, .int .i64 a3, .int .i64 a4] 25)).cell (p := ⟨w.heap.size, 1, none⟩) (by simp only; omega)).trans xc1_121)
              have xc2_122 := (k1 (w.heap.size) 2 (by first | omega | (simp; done) | (simp; omega))).trans (((bal (Below.refl wq121.heap.size wq121) (Obj.cells #[.int .i64 a1, .int .i64 a2, .int .i64 a3, .int .i64 a4] 25)).cell (p := ⟨w.heap.size, 2, none⟩) (by simp only; omega)).trans xc2_121)
              have xc3_122 := (k1 (w.heap.size) 3 (by first | omega | (simp; done) | (simp; omega))).trans (((bal (Below.refl wq121.heap.size wq121) (Obj.cells #[.int .i64 a1, .int .i64 a2, .int .i64 a3, .int .i64 a4] 25)).cell (p := ⟨w.heap.size, 3, none⟩) (by simp only; omega)).trans xc3_121)
              have yc0_122 := (k1 (w.heap.size + 1) 0 (by first | omega | (simp; done) | (simp; omega))).trans (((bal (Below.refl wq121.heap.size wq121) (Obj.cells #[.int .i64 a1, .int .i64 a2, .int .i64 a3, .int .i64 a4] 25)).cell (p := ⟨w.heap.size + 1, 0, none⟩) (by simp only; omega)).trans yc0_121)
              have yc1_122 := (k1 (w.heap.size + 1) 1 (by first | omega | (simp; done) | (simp; omega))).trans (((bal (Below.refl wq121.heap.size wq121) (Obj.cells #[.int .i64 a1, .int .i64 a2, .int .i64 a3, .int .i64 a4] 25)).cell (p := ⟨w.heap.size + 1, 1, none⟩) (by simp only; omega)).trans yc1_121)
              have yc2_122 := (k1 (w.heap.size + 1) 2 (by first | omega | (simp; done) | (simp; omega))).trans (((bal (Below.refl wq121.heap.size wq121) (Obj.cells #[.int .i64 a1, .int .i64 a2, .int .i64 a3, .int .i64 a4] 25)).cell (p := ⟨w.heap.size + 1, 2, none⟩) (by simp only; omega)).trans yc2_121)
              have yc3_122 := (k1 (w.heap.size + 1) 3 (by first | omega | (simp; done) | (simp; omega))).trans (((bal (Below.refl wq121.heap.size wq121) (Obj.cells #[.int .i64 a1, .int .i64 a2, .int .i64 a3, .int .i64 a4] 25)).cell (p := ⟨w.heap.size + 1, 3, none⟩) (by simp only; omega)).trans yc3_121)
              have pc0_122 := (k1 (b9) 0 (by first | omega | (simp; done) | (simp; omega))).trans (((bal (Below.refl wq121.heap.size wq121) (Obj.cells #[.int .i64 a1, .int .i64 a2, .int .i64 a3, .int .i64 a4] 25)).cell (p := ⟨b9, 0, none⟩) (by simp only; omega)).trans pc0_121)
              have pc1_122 := (k1 (b9) 1 (by first | omega | (simp; done) | (simp; omega))).trans (((bal (Below.refl wq121.heap.size wq121) (Obj.cells #[.int .i64 a1, .int .i64 a2, .int .i64 a3, .int .i64 a4] 25)).cell (p := ⟨b9, 1, none⟩) (by simp only; omega)).trans pc1_121)
              have pc2_122 := (k1 (b9) 2 (by first | omega | (simp; done) | (simp; omega))).trans (((bal (Below.refl wq121.heap.size wq121) (Obj.cells #[.int .i64 a1, .int .i64 a2, .int .i64 a3, .int .i64 a4] 25)).cell (p := ⟨b9, 2, none⟩) (by simp only; omega)).trans pc2_121)
              have pc3_122 := (k1 (b9) 3 (by first | omega | (simp; done) | (simp; omega))).trans (((bal (Below.refl wq121.heap.size wq121) (Obj.cells #[.int .i64 a1, .int .i64 a2, .int .i64 a3, .int .i64 a4] 25)).cell (p := ⟨b9, 3, none⟩) (by simp only; omega)).trans pc3_121)
              have qc0_122 := (k1 (b10) 0 (by first | omega | (simp; done) | (simp; omega))).trans (((bal (Below.refl wq121.heap.size wq121) (Obj.cells #[.int .i64 a1, .int .i64 a2, .int .i64 a3, .int .i64 a4] 25)).cell (p := ⟨b10, 0, none⟩) (by simp only; omega)).trans qc0_121)
              have qc1_122 := (k1 (b10) 1 (by first | omega | (simp; done) | (simp; omega))).trans (((bal (Below.refl wq121.heap.size wq121) (Obj.cells #[.int .i64 a1, .int .i64 a2, .int .i64 a3, .int .i64 a4] 25)).cell (p := ⟨b10, 1, none⟩) (by simp only; omega)).trans qc1_121)
              have qc2_122 := (k1 (b10) 2 (by first | omega | (simp; done) | (simp; omega))).trans (((bal (Below.refl wq121.heap.size wq121) (Obj.cells #[.int .i64 a1, .int .i64 a2, .int .i64 a3, .int .i64 a4] 25)).cell (p := ⟨b10, 2, none⟩) (by simp only; omega)).trans qc2_121)
              have qc3_122 := (k1 (b10) 3 (by first | omega | (simp; done) | (simp; omega))).trans (((bal (Below.refl wq121.heap.size wq121) (Obj.cells #[.int .i64 a1, .int .i64 a2, .int .i64 a3, .int .i64 a4] 25)).cell (p := ⟨b10, 3, none⟩) (by simp only; omega)).trans qc3_121)
              have fc0_122 := (k1 (SB) 0 (by first | omega | (simp; done) | (simp; omega))).trans (((bal (Below.refl wq121.heap.size wq121) (Obj.cells #[.int .i64 a1, .int .i64 a2, .int .i64 a3, .int .i64 a4] 25)).cell (p := ⟨SB, 0, none⟩) (by simp only; omega)).trans fc0_121)
              have fc1_122 := (k1 (SB) 1 (by first | omega | (simp; done) | (simp; omega))).trans (((bal (Below.refl wq121.heap.size wq121) (Obj.cells #[.int .i64 a1, .int .i64 a2, .int .i64 a3, .int .i64 a4] 25)).cell (p := ⟨SB, 1, none⟩) (by simp only; omega)).trans fc1_121)
              have fc2_122 := (k1 (SB) 2 (by first | omega | (simp; done) | (simp; omega))).trans (((bal (Below.refl wq121.heap.size wq121) (Obj.cells #[.int .i64 a1, .int .i64 a2, .int .i64 a3, .int .i64 a4] 25)).cell (p := ⟨SB, 2, none⟩) (by simp only; omega)).trans fc2_121)
              have fc3_122 := (k1 (SB) 3 (by first | omega | (simp; done) | (simp; omega))).trans (((bal (Below.refl wq121.heap.size wq121) (Obj.cells #[.int .i64 a1, .int .i64 a2, .int .i64 a3, .int .i64 a4] 25)).cell (p := ⟨SB, 3, none⟩) (by simp only; omega)).trans fc3_121)
              have an0_122 := (k1 (wq121.heap.size) 0 (by first | omega | (simp; done) | (simp; omega))).trans (by go_cell : _ = some (.int .i64 a1))
              have an1_122 := (k1 (wq121.heap.size) 1 (by first | omega | (simp; done) | (simp; omega))).trans (by go_cell : _ = some (.int .i64 a2))
              have an2_122 := (k1 (wq121.heap.size) 2 (by first | omega | (simp; done) | (simp; omega))).trans (by go_cell : _ = some (.int .i64 a3))
              have an3_122 := (k1 (wq121.heap.size) 3 (by first | omega | (simp; done) | (simp; omega))).trans (by go_cell : _ = some (.int .i64 a4))
              have l122_0 : w.heap.size < wq122.heap.size := by omega
              have l122_1 : w.heap.size + 1 < wq122.heap.size := by omega
              have l122_2 : b9 < wq122.heap.size := by omega
              have l122_3 : b10 < wq122.heap.size := by omega
              have l122_4 : SB < wq122.heap.size := by omega
              have l122_5 : wq121.heap.size < wq122.heap.size := by omega
              clear hb hs122 k1 k2 xc0_121 xc1_121 xc2_121 xc3_121 yc0_121 yc1_121 yc2_121 yc3_121 pc0_121 pc1_121 pc2_121 pc3_121 qc0_121 qc1_121 qc2_121 qc3_121 fc0_121 fc1_121 fc2_121 fc3_121 l121_0 l121_1 l121_2 l121_3 l121_4 DS121
              by_cases her : er = 0
              · have hr1 : (er == 0) = true := beq_iff_eq.2 her
                have hr2 : (er != 0) = false := by simp [her]
                clear her
                have DL := DS122
                go_wp2_with fail
                go_roundw
                case rel =>
                  refine ⟨1, by first | rfl | go_num, by omega, Lib.hid (by go_grown), ?_, ?_, ?_, ?_, ?_, Lib.hid ?_⟩
                  · first | omega | (simp; done) | (simp; omega)
                  · first | omega | (simp; done) | (simp; omega)
                  · first | omega | (simp; done) | (simp; omega)
                  · first | omega | (simp; done) | (simp; omega)
                  · first | omega | (simp; done) | (simp; omega)
                  · refine ⟨?_, ?_, ?_, ?_, ?_, ?_, ?_, ?_, ?_, ?_, ?_, ?_, ?_, ?_, ?_, ?_, ?_, ?_, ?_, ?_⟩ <;> first | assumption | go_cell
                case measure => first | (simp [intOf]; done) | (simp [intOf]; omega)
              · have hr1 : (er == 0) = false := beq_eq_false_iff_ne.2 her
                have hr2 : (er != 0) = true := bne_iff_ne.2 her
                have DL := DS122
                go_wp2_with fail
                go_roundw
                case rel =>
                  refine ⟨1, by first | rfl | go_num, by omega, Lib.hid (by go_grown), ?_, ?_, ?_, ?_, ?_, Lib.hid ?_⟩
                  · first | omega | (simp; done) | (simp; omega)
                  · first | omega | (simp; done) | (simp; omega)
                  · first | omega | (simp; done) | (simp; omega)
                  · first | omega | (simp; done) | (simp; omega)
                  · first | omega | (simp; done) | (simp; omega)
                  · refine ⟨?_, ?_, ?_, ?_, ?_, ?_, ?_, ?_, ?_, ?_, ?_, ?_, ?_, ?_, ?_, ?_, ?_, ?_, ?_, ?_⟩ <;> first | assumption | go_cell
                case measure => first | (simp [intOf]; done) | (simp [intOf]; omega)
          · rcases grow_of (F := subR) HB1.out HB2.out (fun r hr => subR_mono ((inside_iff _ _).1 HB1.out).2.2 ((inside_iff _ _).1 HB2.out).2.2 ((inside_iff _ _).1 HB1.out).1 ((inside_iff _ _).1 HB2.out).1 hr) (fun _ _ _ h => subR_ok h) ne0_subR with ⟨a1, a2, a3, a4, b1, b2, b3, b4, ha, hb, hin⟩ | ⟨a1, a2, a3, a4, b1, b2, b3, b4, er, ek, ha, hb, hne⟩
            · have HA := Lib.hid ha
              have HB := Lib.hid hb
              have HIN := Lib.hid hin
              clear ha hb hin
              go_wp2_with fail
              refine (eSub_any a b c d s t u v _).mono ?_
              rw [HA.out]
              rintro e wq131 ⟨he, hb⟩
              obtain rfl : e = .returned (.tuple #[.agg #[.int .i64 a1, .int .i64 a2, .int .i64 a3, .int .i64 a4], .int .i64 0]) := he
              have hs131 := hb.size
              (try simp at hs131)
              have DS131 : Below w.heap.size w wq131 := Below.trans (by go_grown) (hb.mono (by have := DB.size; first | omega | (simp; done) | (simp; omega)))
              obtain ⟨k1, k2⟩ := bcl hb
              have xc0_131 := (k1 (w.heap.size) 0 (by first | omega | (simp; done) | (simp; omega))).trans (((Below.refl wr.heap.size wr).cell (p := ⟨w.heap.size, 0, none⟩) (by simp only; omega)).trans xc0)
              have xc1_131 := (k1 (w.heap.size) 1 (by first | omega | (simp; done) | (simp; omega))).trans (((Below.refl wr.heap.size wr).cell (p := ⟨w.heap.size, 1, none⟩) (by simp only; omega)).trans xc1)
              have xc2_131 := (k1 (w.heap.size) 2 (by first | omega | (simp; done) | (simp; omega))).trans (((Below.refl wr.heap.size wr).cell (p := ⟨w.heap.size, 2, none⟩) (by simp only; omega)).trans xc2)
              have xc3_131 := (k1 (w.heap.size) 3 (by first | omega | (simp; done) | (simp; omega))).trans (((Below.refl wr.heap.size wr).cell (p := ⟨w.heap.size, 3, none⟩) (by simp only; omega)).trans xc3)
              have yc0_131 := (k1 (w.heap.size + 1) 0 (by first | omega | (simp; done) | (simp; omega))).trans (((Below.refl wr.heap.size wr).cell (p := ⟨w.heap.size + 1, 0, none⟩) (by simp only; omega)).trans yc0)
              have yc1_131 := (k1 (w.heap.size + 1) 1 (by first | omega | (simp; done) | (simp; omega))).trans (((Below.refl wr.heap.size wr).cell (p := ⟨w.heap.size + 1, 1, none⟩) (by simp only; omega)).trans yc1)
              have yc2_131 := (k1 (w.heap.size + 1) 2 (by first | omega | (simp; done) | (simp; omega))).trans (((Below.refl wr.heap.size wr).cell (p := ⟨w.heap.size + 1, 2, none⟩) (by simp only; omega)).trans yc2)
              have yc3_131 := (k1 (w.heap.size + 1) 3 (by first | omega | (simp; done) | (simp; omega))).trans (((Below.refl wr.heap.size wr).cell (p := ⟨w.heap.size + 1, 3, none⟩) (by simp only; omega)).trans yc3)
              have pc0_131 := (k1 (b9) 0 (by first | omega | (simp; done) | (simp; omega))).trans (((Below.refl wr.heap.size wr).cell (p := ⟨b9, 0, none⟩) (by simp only; omega)).trans pc0)
              have pc1_131 := (k1 (b9) 1 (by first | omega | (simp; done) | (simp; omega))).trans (((Below.refl wr.heap.size wr).cell (p := ⟨b9, 1, none⟩) (by simp only; omega)).trans pc1)
              have pc2_131 := (k1 (b9) 2 (by first | omega | (simp; done) | (simp; omega))).trans (((Below.refl wr.heap.size wr).cell (p := ⟨b9, 2, none⟩) (by simp only; omega)).trans pc2)
              have pc3_131 := (k1 (b9) 3 (by first | omega | (simp; done) | (simp; omega))).trans (((Below.refl wr.heap.size wr).cell (p := ⟨b9, 3, none⟩) (by simp only; omega)).trans pc3)
              have qc0_131 := (k1 (b10) 0 (by first | omega | (simp; done) | (simp; omega))).trans (((Below.refl wr.heap.size wr).cell (p := ⟨b10, 0, none⟩) (by simp only; omega)).trans qc0)
              have qc1_131 := (k1 (b10) 1 (by first | omega | (simp; done) | (simp; omega))).trans (((Below.refl wr.heap.size wr).cell (p := ⟨b10, 1, none⟩) (by simp only; omega)).trans qc1)
              have qc2_131 := (k1 (b10) 2 (by first | omega | (simp; done) | (simp; omega))).trans (((Below.refl wr.heap.size wr).cell (p := ⟨b10, 2, none⟩) (by simp only; omega)).trans qc2)
              have qc3_131 := (k1 (b10) 3 (by first | omega | (simp; done) | (simp; omega))).trans (((Below.refl wr.heap.size wr).cell (p := ⟨b10, 3, none⟩) (by simp only; omega)).trans qc3)
              have fc0_131 := (k1 (SB) 0 (by first | omega | (simp; done) | (simp; omega))).trans (((Below.refl wr.heap.size wr).cell (p := ⟨SB, 0, none⟩) (by simp only; omega)).trans fc0)
              have fc1_131 := (k1 (SB) 1 (by first | omega | (simp; done) | (simp; omega))).trans (((Below.refl wr.heap.size wr).cell (p := ⟨SB, 1, none⟩) (by simp only; omega)).trans fc1)
              have fc2_131 := (k1 (SB) 2 (by first | omega | (simp; done) | (simp; omega))).trans (((Below.refl wr.heap.size wr).cell (p := ⟨SB, 2, none⟩) (by simp only; omega)).trans fc2)
              have fc3_131 := (k1 (SB) 3 (by first | omega | (simp; done) | (simp; omega))).trans (((Below.refl wr.heap.size wr).cell (p := ⟨SB, 3, none⟩) (by simp only; omega)).trans fc3)
              have l131_0 : w.heap.size < wq131.heap.size := by omega
              have l131_1 : w.heap.size + 1 < wq131.heap.size := by omega
              have l131_2 : b9 < wq131.heap.size := by omega
              have l131_3 : b10 < wq131.heap.size := by omega
              have l131_4 : SB < wq131.heap.size := by omega
              clear hb hs131 k1 k2 xc0 xc1 xc2 xc3 yc0 yc1 yc2 yc3 pc0 pc1 pc2 pc3 qc0 qc1 qc2 qc3 fc0 fc1 fc2 fc3 t0 t1 t2 t3 t4 DB
              go_wp2_with fail
              refine (eSub_any p1 p2 p3 p4 q1 q2 q3 q4 _).mono ?_
              rw [HB.out]
              rintro e wq132 ⟨he, hb⟩
              obtain rfl : e = .returned (.tuple #[.agg #[.int .i64 b1, .int .i64 b2, .int .i64 b3, .int .i64 b4], .int .i64 0]) := he
              have hs132 := hb.size
              (try simp at hs132)
              have DS132 : Below w.heap.size w wq132 := Below.trans (by go_grown) (hb.mono (by have := DS131.size; first | omega | (simp; done) | (simp; omega)))
              obtain ⟨k1, k2⟩ := bcl hb
              have xc0_132 := (k1 (w.heap.size) 0 (by first | omega | (simp; done) | (simp; omega))).trans (((bal (Below.refl wq131.heap.size wq131) (Obj.cells #[.int .i64 a1, .int .i64 a2, .int .i64 a3, .int .i64 a4] 25)).cell (p := ⟨w.heap.size, 0, none⟩) (by simp only; omega)).trans xc0_131)
              have xc1_132 := (k1 (w.heap.size) 1 (by first | omega | (simp; done) | (simp; omega))).trans (((bal (Below.refl wq131.heap.size wq131) (Obj.cells #[.int .i64 a1, .int .i64 a2, .int .i64 a3, .int .i64 a4] 25)).cell (p := ⟨w.heap.size, 1, none⟩) (by simp only; omega)).trans xc1_131)
              have xc2_132 := (k1 (w.heap.size) 2 (by first | omega | (simp; done) | (simp; omega))).trans (((bal (Below.refl wq131.heap.size wq131) (Obj.cells #[.int .i64 a1, .int .i64 a2, .int .i64 a3, .int .i64 a4] 25)).cell (p := ⟨w.heap.size, 2, none⟩) (by simp only; omega)).trans xc2_131)
              have xc3_132 := (k1 (w.heap.size) 3 (by first | omega | (simp; done) | (simp; omega))).trans (((bal (Below.refl wq131.heap.size wq131) (Obj.cells #[.int .i64 a1, .int .i64 a2, .int .i64 a3, .int .i64 a4] 25)).cell (p := ⟨w.heap.size, 3, none⟩) (by simp only; omega)).trans xc3_131)
              have yc0_132 := (k1 (w.heap.size + 1) 0 (by first | omega | (simp; done) | (simp; omega))).trans (((bal (Below.refl wq131.heap.size wq131) (Obj.cells #[.int .i64 a1, .int .i64 a2, .int .i64 a3, .int .i64 a4] 25)).cell (p := ⟨w.heap.size + 1, 0, none⟩) (by simp only; omega)).trans yc0_131)
              have yc1_132 := (k1 (w.heap.size + 1) 1 (by first | omega | (simp; done) | (simp; omega))).trans (((bal (Below.refl wq131.heap.size wq131) (Obj.cells #[.int .i64 a1, .int .i64 a2, .int .i64 a3, .int .i64 a4] 25)).cell (p := ⟨w.heap.size + 1, 1, none⟩) (by simp only; omega)).trans yc1_131)
              have yc2_132 := (k1 (w.heap.size + 1) 2 (by first | omega | (simp; done) | (simp; omega))).trans (((bal (Below.refl wq131.heap.size wq131) (Obj.cells #[.int .i64 a1, .int .i64 a2, .int .i64 a3, .int .i64 a4] 25)).cell (p := ⟨w.heap.size + 1, 2, none⟩) (by simp only; omega)).trans yc2_131)
              have yc3_132 := (k1 (w.heap.size + 1) 3 (by first | omega | (simp; done) | (simp; omega))).trans (((bal (Below.refl wq131.heap.size wq131) (Obj.cells #[.int .i64 a1, .int .i64 a2, .int .i64 a3, .int .i64 a4] 25)).cell (p := ⟨w.heap.size + 1, 3, none⟩) (by simp only; omega)).trans yc3_131)
              have pc0_132 := (k1 (b9) 0 (by first | omega | (simp; done) | (simp; omega))).trans (((bal (Below.refl wq131.heap.size wq131) (Obj.cells #[.int .i64 a1, .int .i64 a2, .int .i64 a3, .int .i64 a4] 25)).cell (p := ⟨b9, 0, none⟩) (by simp only; omega)).trans pc0_131)
              have pc1_132 := (k1 (b9) 1 (by first | omega | (simp; done) | (simp; omega))).trans (((bal (Below.refl wq131.heap.size wq131) (Obj.cells #[.int .i64 a1, .int .i64 a2, .int .i64 a3, .int .i64 a4] 25)).cell (p := ⟨b9, 1, none⟩) (by simp only; omega)).trans pc1_131)
              have pc2_132 := (k1 (b9) 2 (by first | omega | (simp; done) | (simp; omega))).trans (((bal (Below.refl wq131.heap.size wq131) (Obj.cells #[.int .i64 a1, .int .i64 a2, .int .i64 a3, .int .i64 a4] 25)).cell (p := ⟨b9, 2, none⟩) (by simp only; omega)).trans pc2_131)
              have pc3_132 := (k1 (b9) 3 (by first | omega | (simp; done) | (simp; omega))).trans (((bal (Below.refl wq131.heap.size wq131) (Obj.cells #[.int .i64 a1, .int .i64 a2, .int .i64 a3, .int .i64 a4] 25)).cell (p := ⟨b9, 3, none⟩) (by simp only; omega)).trans pc3_131)
              have qc0_132 := (k1 (b10) 0 (by first | omega | (simp; done) | (simp; omega))).trans (((bal (Below.refl wq131.heap.size wq131) (Obj.cells #[.int .i64 a1, .int .i64 a2, .int .i64 a3, .int .i64 a4] 25)).cell (p := ⟨b10, 0, none⟩) (by simp only; omega)).trans qc0_131)
              have qc1_132 := (k1 (b10) 1 (by first | omega | (simp; done) | (simp; omega))).trans (((bal (Below.refl wq131.heap.size wq131) (Obj.cells #[.int .i64 a1, .int .i64 a2, .int .i64 a3, .int .i64 a4] 25)).cell (p := ⟨b10, 1, none⟩) (by simp only; omega)).trans qc1_131)
              have qc2_132 := (k1 (b10) 2 (by first | omega | (simp; done) | (simp; omega))).trans (((bal (Below.refl wq131.heap.size wq131) (Obj.cells #[.int .i64 a1, .int .i64 a2, .int .i64 a3, .int .i64 a4] 25)).cell (p := ⟨b10, 2, none⟩) (by simp only; omega)).trans qc2_131)
              have qc3_132 := (k1 (b10) 3 (by first | omega | (simp; done) | (simp; omega))).trans (((bal (Below.refl wq131.heap.size wq131) (Obj.cells #[.int .i64 a1, .int .i64 a2, .int .i64 a3, .int .i64 a4] 25)).cell (p := ⟨b10, 3, none⟩) (by simp only; omega)).trans qc3_131)
              have fc0_132 := (k1 (SB) 0 (by first | omega | (simp; done) | (simp; omega))).trans (((bal (Below.refl wq131.heap.size wq131) (Obj.cells #[.int .i64 a1, .int .i64 a2, .int .i64 a3, .int .i64 a4] 25)).cell (p := ⟨SB, 0, none⟩) (by simp only; omega)).trans fc0_131)
              have fc1_132 := (k1 (SB) 1 (by first | omega | (simp; done) | (simp; omega))).trans (((bal (Below.refl wq131.heap.size wq131) (Obj.cells #[.int .i64 a1, .int .i64 a2, .int .i64 a3, .int .i64 a4] 25)).cell (p := ⟨SB, 1, none⟩) (by simp only; omega)).trans fc1_131)
              have fc2_132 := (k1 (SB) 2 (by first | omega | (simp; done) | (simp; omega))).trans (((bal (Below.refl wq131.heap.size wq131) (Obj.cells #[.int .i64 a1, .int .i64 a2, .int .i64 a3, .int .i64 a4] 25)).cell (p := ⟨SB, 2, none⟩) (by simp only; omega)).trans fc2_131)
              have fc3_132 := (k1 (SB) 3 (by first | omega | (simp; done) | (simp; omega))).trans (((bal (Below.refl wq131.heap.size wq131) (Obj.cells #[.int .i64 a1, .int .i64 a2, .int .i64 a3, .int .i64 a4] 25)).cell (p := ⟨SB, 3, none⟩) (by simp only; omega)).trans fc3_131)
              have an0_132 := (k1 (wq131.heap.size) 0 (by first | omega | (simp; done) | (simp; omega))).trans (by go_cell : _ = some (.int .i64 a1))
              have an1_132 := (k1 (wq131.heap.size) 1 (by first | omega | (simp; done) | (simp; omega))).trans (by go_cell : _ = some (.int .i64 a2))
              have an2_132 := (k1 (wq131.heap.size) 2 (by first | omega | (simp; done) | (simp; omega))).trans (by go_cell : _ = some (.int .i64 a3))
              have an3_132 := (k1 (wq131.heap.size) 3 (by first | omega | (simp; done) | (simp; omega))).trans (by go_cell : _ = some (.int .i64 a4))
              have l132_0 : w.heap.size < wq132.heap.size := by omega
              have l132_1 : w.heap.size + 1 < wq132.heap.size := by omega
              have l132_2 : b9 < wq132.heap.size := by omega
              have l132_3 : b10 < wq132.heap.size := by omega
              have l132_4 : SB < wq132.heap.size := by omega
              have l132_5 : wq131.heap.size < wq132.heap.size := by omega
              clear hb hs132 k1 k2 xc0_131 xc1_131 xc2_131 xc3_131 yc0_131 yc1_131 yc2_131 yc3_131 pc0_131 pc1_131 pc2_131 pc3_131 qc0_131 qc1_131 qc2_131 qc3_131 fc0_131 fc1_131 fc2_131 fc3_131 l131_0 l131_1 l131_2 l131_3 l131_4 DS131
              go_wp2_with fail
              refine (inL_any a1 a2 a3 a4 b1 b2 b3 b4 _).mono ?_
              rw [HIN.out]
              rintro e wq133 ⟨he, hb⟩
              obtain rfl : e = .returned (.bool true) := he
              have hs133 := hb.size
              (try simp at hs133)
              have DS133 : Below w.heap.size w wq133 := Below.trans (by go_grown) (hb.mono (by have := DS132.size; first | omega | (simp; done) | (simp; omega)))
              obtain ⟨k1, k2⟩ := bcl hb
              have xc0_133 := (k1 (w.heap.size) 0 (by first | omega | (simp; done) | (simp; omega))).trans (((bal (Below.refl wq132.heap.size wq132) (Obj.cells #[.int .i64 b1, .int .i64 b2, .int .i64 b3, .int .i64 b4] 25)).cell (p := ⟨w.heap.size, 0, none⟩) (by simp only; omega)).trans xc0_132)
              have xc1_133 := (k1 (w.heap.size) 1 (by first | omega | (simp; done) | (simp; omega))).trans (((bal (Below.refl wq132.heap.size wq132) (Obj.cells #[.int .i64 b1, .int .i64 b2, .int .i64 b3, .int .i64 b4] 25)).cell (p := ⟨w.heap.size, 1, none⟩) (by simp only; omega)).trans xc1_132)
              have xc2_133 := (k1 (w.heap.size) 2 (by first | omega | (simp; done) | (simp; omega))).trans (((bal (Below.refl wq132.heap.size wq132) (Obj.cells #[.int .i64 b1, .int .i64 b2, .int .i64 b3, .int .i64 b4] 25)).cell (p := ⟨w.heap.size, 2, none⟩) (by simp only; omega)).trans xc2_132)
              have xc3_133 := (k1 (w.heap.size) 3 (by first | omega | (simp; done) | (simp; omega))).trans (((bal (Below.refl wq132.heap.size wq132) (Obj.cells #[.int .i64 b1, .int .i64 b2, .int .i64 b3, .int .i64 b4] 25)).cell (p := ⟨w.heap.size, 3, none⟩) (by simp only; omega)).trans xc3_132)
              have yc0_133 := (k1 (w.heap.size + 1) 0 (by first | omega | (simp; done) | (simp; omega))).trans (((bal (Below.refl wq132.heap.size wq132) (Obj.cells #[.int .i64 b1, .int .i64 b2, .int .i64 b3, .int .i64 b4] 25)).cell (p := ⟨w.heap.size + 1, 0, none⟩) (by simp only; omega)).trans yc0_132)
              have yc1_133 := (k1 (w.heap.size + 1) 1 (by first | omega | (simp; done) | (simp; omega))).trans (((bal (Below.refl wq132.heap.size wq132) (Obj.cells #[.int .i64 b1, .int .i64 b2, .int .i64 b3, .int .i64 b4] 25)).cell (p := ⟨w.heap.size + 1, 1, none⟩) (by simp only; omega)).trans yc1_132)
              have yc2_133 := (k1 (w.heap.size + 1) 2 (by first | omega | (simp; done) | (simp; omega))).trans (((bal (Below.refl wq132.heap.size wq132) (Obj.cells #[.int .i64 b1, .int .i64 b2, .int .i64 b3, .int .i64 b4] 25)).cell (p := ⟨w.heap.size + 1, 2, none⟩) (by simp only; omega)).trans yc2_132)
              have yc3_133 := (k1 (w.heap.size + 1) 3 (by first | omega | (simp; done) | (simp; omega))).trans (((bal (Below.refl wq132.heap.size wq132) (Obj.cells #[.int .i64 b1, .int .i64 b2, .int .i64 b3, .int .i64 b4] 25)).cell (p := ⟨w.heap.size + 1, 3, none⟩) (by simp only; omega)).trans yc3_132)
              have pc0_133 := (k1 (b9) 0 (by first | omega | (simp; done) | (simp; omega))).trans (((bal (Below.refl wq132.heap.size wq132) (Obj.cells #[.int .i64 b1, .int .i64 b2, .int .i64 b3, .int .i64 b4] 25)).cell (p := ⟨b9, 0, none⟩) (by simp only; omega)).trans pc0_132)
              have pc1_133 := (k1 (b9) 1 (by first | omega | (simp; done) | (simp; omega))).trans (((bal (Below.refl wq132.heap.size wq132) (Obj.cells #[.int .i64 b1, .int .i64 b2, .int .i64 b3, .int .i64 b4] 25)).cell (p := ⟨b9, 1, none⟩) (by simp only; omega)).trans pc1_132)
              have pc2_133 := (k1 (b9) 2 (by first | omega | (simp; done) | (simp; omega))).trans (((bal (Below.refl wq132.heap.size wq132) (Obj.cells #[.int .i64 b1, .int .i64 b2, .int .i64 b3, .int .i64 b4] 25)).cell (p := ⟨b9, 2, none⟩) (by simp only; omega)).trans pc2_132)
              have pc3_133 := (k1 (b9) 3 (by first | omega | (simp; done) | (simp; omega))).trans (((bal (Below.refl wq132.heap.size wq132) (Obj.cells #[.int .i64 b1, .int .i64 b2, .int .i64 b3, .int .i64 b4] 25)).cell (p := ⟨b9, 3, none⟩) (by simp only; omega)).trans pc3_132)
              have qc0_133 := (k1 (b10) 0 (by first | omega | (simp; done) | (simp; omega))).trans (((bal (Below.refl wq132.heap.size wq132) (Obj.cells #[.int .i64 b1, .int .i64 b2, .int .i64 b3, .int .i64 b4] 25)).cell (p := ⟨b10, 0, none⟩) (by simp only; omega)).trans qc0_132)
              have qc1_133 := (k1 (b10) 1 (by first | omega | (simp; done) | (simp; omega))).trans (((bal (Below.refl wq132.heap.size wq132) (Obj.cells #[.int .i64 b1, .int .i64 b2, .int .i64 b3, .int .i64 b4] 25)).cell (p := ⟨b10, 1, none⟩) (by simp only; omega)).trans qc1_132)
              have qc2_133 := (k1 (b10) 2 (by first | omega | (simp; done) | (simp; omega))).trans (((bal (Below.refl wq132.heap.size wq132) (Obj.cells #[.int .i64 b1, .int .i64 b2, .int .i64 b3, .int .i64 b4] 25)).cell (p := ⟨b10, 2, none⟩) (by simp only; omega)).trans qc2_132)
              have qc3_133 := (k1 (b10) 3 (by first | omega | (simp; done) | (simp; omega))).trans (((bal (Below.refl wq132.heap.size wq132) (Obj.cells #[.int .i64 b1, .int .i64 b2, .int .i64 b3, .int .i64 b4] 25)).cell (p := ⟨b10, 3, none⟩) (by simp only; omega)).trans qc3_132)
              have fc0_133 := (k1 (SB) 0 (by first | omega | (simp; done) | (simp; omega))).trans (((bal (Below.refl wq132.heap.size wq132) (Obj.cells #[.int .i64 b1, .int .i64 b2, .int .i64 b3, .int .i64 b4] 25)).cell (p := ⟨SB, 0, none⟩) (by simp only; omega)).trans fc0_132)
              have fc1_133 := (k1 (SB) 1 (by first | omega | (simp; done) | (simp; omega))).trans (((bal (Below.refl wq132.heap.size wq132) (Obj.cells #[.int .i64 b1, .int .i64 b2, .int .i64 b3, .int .i64 b4] 25)).cell (p := ⟨SB, 1, none⟩) (by simp only; omega)).trans fc1_132)
              have fc2_133 := (k1 (SB) 2 (by first | omega | (simp; done) | (simp; omega))).trans (((bal (Below.refl wq132.heap.size wq132) (Obj.cells #[.int .i64 b1, .int .i64 b2, .int .i64 b3, .int .i64 b4] 25)).cell (p := ⟨SB, 2, none⟩) (by simp only; omega)).trans fc2_132)
              have fc3_133 := (k1 (SB) 3 (by first | omega | (simp; done) | (simp; omega))).trans (((bal (Below.refl wq132.heap.size wq132) (Obj.cells #[.int .i64 b1, .int .i64 b2, .int .i64 b3, .int .i64 b4] 25)).cell (p := ⟨SB, 3, none⟩) (by simp only; omega)).trans fc3_132)
              have l133_0 : w.heap.size < wq133.heap.size := by omega
              have l133_1 : w.heap.size + 1 < wq133.heap.size := by omega
              have l133_2 : b9 < wq133.heap.size := by omega
              have l133_3 : b10 < wq133.heap.size := by omega
              have l133_4 : SB < wq133.heap.size := by omega
              clear hb hs133 k1 k2 xc0_132 xc1_132 xc2_132 xc3_132 yc0_132 yc1_132 yc2_132 yc3_132 pc0_132 pc1_132 pc2_132 pc3_132 qc0_132 qc1_132 qc2_132 qc3_132 fc0_132 fc1_132 fc2_132 fc3_132 an0_132 an1_132 an2_132 an3_132 l132_0 l132_1 l132_2 l132_3 l132_4 l132_5 DS132
              have DL := DS133
              go_wp2_with fail
              go_roundw
              case rel =>
                refine ⟨2, by first | rfl | go_num, by omega, Lib.hid (by go_grown), ?_, ?_, ?_, ?_, ?_, Lib.hid ?_⟩
                · first | omega | (simp; done) | (simp; omega)
                · first | omega | (simp; done) | (simp; omega)
                · first | omega | (simp; done) | (simp; omega)
                · first | omega | (simp; done) | (simp; omega)
                · first | omega | (simp; done) | (simp; omega)
                · refine ⟨?_, ?_, ?_, ?_, ?_, ?_, ?_, ?_, ?_, ?_, ?_, ?_, ?_, ?_, ?_, ?_, ?_, ?_, ?_, ?_⟩ <;> first | assumption | go_cell
              case measure => first | (simp [intOf]; done) | (simp [intOf]; omega)
            · have HA := Lib.hid ha
              have HB := Lib.hid hb
              have hk1 : (ek == 0) = false := beq_eq_false_iff_ne.2 hne
              have hk2 : (ek != 0) = true := bne_iff_ne.2 hne
              clear ha hb
              go_wp2_with fail
              refine (eSub_any a b c d s t u v _).mono ?_
              rw [HA.out]
              rintro e wq141 ⟨he, hb⟩
              obtain rfl : e = .returned (.tuple #[.agg #[.int .i64 a1, .int .i64 a2, .int .i64 a3, .int .i64 a4], .int .i64 er]) := he
              have hs141 := hb.size
              (try simp at hs141)
              have DS141 : Below w.heap.size w wq141 := Below.trans (by go_grown) (hb.mono (by have := DB.size; first | omega | (simp; done) | (simp; omega)))
              obtain ⟨k1, k2⟩ := bcl hb
              have xc0_141 := (k1 (w.heap.size) 0 (by first | omega | (simp; done) | (simp; omega))).trans (((Below.refl wr.heap.size wr).cell (p := ⟨w.heap.size, 0, none⟩) (by simp only; omega)).trans xc0)
              have xc1_141 := (k1 (w.heap.size) 1 (by first | omega | (simp; done) | (simp; omega))).trans (((Below.refl wr.heap.size wr).cell (p := ⟨w.heap.size, 1, none⟩) (by simp only; omega)).trans xc1)
              have xc2_141 := (k1 (w.heap.size) 2 (by first | omega | (simp; done) | (simp; omega))).trans (((Below.refl wr.heap.size wr).cell (p := ⟨w.heap.size, 2, none⟩) (by simp only; omega)).trans xc2)
              have xc3_141 := (k1 (w.heap.size) 3 (by first | omega | (simp; done) | (simp; omega))).trans (((Below.refl wr.heap.size wr).cell (p := ⟨w.heap.size, 3, none⟩) (by simp only; omega)).trans xc3)
              have yc0_141 := (k1 (w.heap.size + 1) 0 (by first | omega | (simp; done) | (simp; omega))).trans (((Below.refl wr.heap.size wr).cell (p := ⟨w.heap.size + 1, 0, none⟩) (by simp only; omega)).trans yc0)
              have yc1_141 := (k1 (w.heap.size + 1) 1 (by first | omega | (simp; done) | (simp; omega))).trans (((Below.refl wr.heap.size wr).cell (p := ⟨w.heap.size + 1, 1, none⟩) (by simp only; omega)).trans yc1)
              have yc2_141 := (k1 (w.heap.size + 1) 2 (by first | omega | (simp; done) | (simp; omega))).trans (((Below.refl wr.heap.size wr).cell (p := ⟨w.heap.size + 1, 2, none⟩) (by simp only; omega)).trans yc2)
              have yc3_141 := (k1 (w.heap.size + 1) 3 (by first | omega | (simp; done) | (simp; omega))).trans (((Below.refl wr.heap.size wr).cell (p := ⟨w.heap.size + 1, 3, none⟩) (by simp only; omega)).trans yc3)
              have pc0_141 := (k1 (b9) 0 (by first | omega | (simp; done) | (simp; omega))).trans (((Below.refl wr.heap.size wr).cell (p := ⟨b9, 0, none⟩) (by simp only; omega)).trans pc0)
              have pc1_141 := (k1 (b9) 1 (by first | omega | (simp; done) | (simp; omega))).trans (((Below.refl wr.heap.size wr).cell (p := ⟨b9, 1, none⟩) (by simp only; omega)).trans pc1)
              have pc2_141 := (k1 (b9) 2 (by first | omega | (simp; done) | (simp; omega))).trans (((Below.refl wr.heap.size wr).cell (p := ⟨b9, 2, none⟩) (by simp only; omega)).trans pc2)
              have pc3_141 := (k1 (b9) 3 (by first | omega | (simp; done) | (simp; omega))).trans (((Below.refl wr.heap.size wr).cell (p := ⟨b9, 3, none⟩) (by simp only; omega)).trans pc3)
              have qc0_141 := (k1 (b10) 0 (by first | omega | (simp; done) | (simp; omega))).trans (((Below.refl wr.heap.size wr).cell (p := ⟨b10, 0, none⟩) (by simp only; omega)).trans qc0)
              have qc1_141 := (k1 (b10) 1 (by first | omega | (simp; done) | (simp; omega))).trans (((Below.refl wr.heap.size wr).cell (p := ⟨b10, 1, none⟩) (by simp only; omega)).trans qc1)
              have qc2_141 := (k1 (b10) 2 (by first | omega | (simp; done) | (simp; omega))).trans (((Below.refl wr.heap.size wr).cell (p := ⟨b10, 2, none⟩) (by simp only; omega)).trans qc2)
              have qc3_141 := (k1 (b10) 3 (by first | omega | (simp; done) | (simp; omega))).trans (((Below.refl wr.heap.size wr).cell (p := ⟨b10, 3, none⟩) (by simp only; omega)).trans qc3)
              have fc0_141 := (k1 (SB) 0 (by first | omega | (simp; done) | (simp; omega))).trans (((Below.refl wr.heap.size wr).cell (p := ⟨SB, 0, none⟩) (by simp only; omega)).trans fc0)
              have fc1_141 := (k1 (SB) 1 (by first | omega | (simp; done) | (simp; omega))).trans (((Below.refl wr.heap.size wr).cell (p := ⟨SB, 1, none⟩) (by simp only; omega)).trans fc1)
              have fc2_141 := (k1 (SB) 2 (by first | omega | (simp; done) | (simp; omega))).trans (((Below.refl wr.heap.size wr).cell (p := ⟨SB, 2, none⟩) (by simp only; omega)).trans fc2)
              have fc3_141 := (k1 (SB) 3 (by first | omega | (simp; done) | (simp; omega))).trans (((Below.refl wr.heap.size wr).cell (p := ⟨SB, 3, none⟩) (by simp only; omega)).trans fc3)
              have l141_0 : w.heap.size < wq141.heap.size := by omega
              have l141_1 : w.heap.size + 1 < wq141.heap.size := by omega
              have l141_2 : b9 < wq141.heap.size := by omega
              have l141_3 : b10 < wq141.heap.size := by omega
              have l141_4 : SB < wq141.heap.size := by omega
              clear hb hs141 k1 k2 xc0 xc1 xc2 xc3 yc0 yc1 yc2 yc3 pc0 pc1 pc2 pc3 qc0 qc1 qc2 qc3 fc0 fc1 fc2 fc3 t0 t1 t2 t3 t4 DB
              go_wp2_with fail
              refine (eSub_any p1 p2 p3 p4 q1 q2 q3 q4 _).mono ?_
              rw [HB.out]
              rintro e wq142 ⟨he, hb⟩
              obtain rfl : e = .returned (.tuple #[.agg #[.int .i64 b1, .int .i64 b2, .int .i64 b3, .int .i64 b4], .int .i64 ek]) := he
              have hs142 := hb.size
              (try simp at hs142)
              have DS142 : Below w.heap.size w wq142 := Below.trans (by go_grown) (hb.mono (by have := DS141.size; first | omega | (simp; done) | (simp; omega)))
              obtain ⟨k1, k2⟩ := bcl hb
              have xc0_142 := (k1 (w.heap.size) 0 (by first | omega | (simp; done) | (simp; omega))).trans (((bal (Below.refl wq141.heap.size wq141) (Obj.cells #[.int .i64 a1, .int .i64 a2, .int .i64 a3, .int .i64 a4] 25)).cell (p := ⟨w.heap.size, 0, none⟩) (by simp only; omega)).trans xc0_141)
              have xc1_142 := (k1 (w.heap.size) 1 (by first | omega | (simp; done) | (simp; omega))).trans (((bal (Below.refl wq141.heap.size wq141) (Obj.cells #[.int .i64 a1, .int .i64 a2, .int .i64 a3, .int .i64 a4] 25)).cell (p := ⟨w.heap.size, 1, none⟩) (by simp only; omega)).trans xc1_141)
              have xc2_142 := (k1 (w.heap.size) 2 (by first | omega | (simp; done) | (simp; omega))).trans (((bal (Below.refl wq141.heap.size wq141) (Obj.cells #[.int .i64 a1, .int .i64 a2, .int .i64 a3, .int .i64 a4] 25)).cell (p := ⟨w.heap.size, 2, none⟩) (by simp only; omega)).trans xc2_141)
              have xc3_142 := (k1 (w.heap.size) 3 (by first | omega | (simp; done) | (simp; omega))).trans (((bal (Below.refl wq141.heap.size wq141) (Obj.cells #[.int .i64 a1, .int .i64 a2, .int .i64 a3, .int .i64 a4] 25)).cell (p := ⟨w.heap.size, 3, none⟩) (by simp only; omega)).trans xc3_141)
              have yc0_142 := (k1 (w.heap.size + 1) 0 (by first | omega | (simp; done) | (simp; omega))).trans (((bal (Below.refl wq141.heap.size wq141) (Obj.cells #[.int .i64 a1, .int .i64 a2, .int .i64 a3, .int .i64 a4] 25)).cell (p := ⟨w.heap.size + 1, 0, none⟩) (by simp only; omega)).trans yc0_141)
              have yc1_142 := (k1 (w.heap.size + 1) 1 (by first | omega | (simp; done) | (simp; omega))).trans (((bal (Below.refl wq141.heap.size wq141) (Obj.cells #[.int .i64 a1, .int .i64 a2, .int .i64 a3, .int .i64 a4] 25)).cell (p := ⟨w.heap.size + 1, 1, none⟩) (by simp only; omega)).trans yc1_141)
              have yc2_142 := (k1 (w.heap.size + 1) 2 (by first | omega | (simp; done) | (simp; omega))).trans (((bal (Below.refl wq141.heap.size wq141) (Obj.cells #[.int .i64 a1, .int .i64 a2, .int .i64 a3, .int .i64 a4] 25)).cell (p := ⟨w.heap.size + 1, 2, none⟩) (by simp only; omega)).trans yc2_141)
              have yc3_142 := (k1 (w.heap.size + 1) 3 (by first | omega | (simp; done) | (simp; omega))).trans (((bal (Below.refl wq141.heap.size wq141) (Obj.cells #[.int .i64 a1, .int .i64 a2, .int .i64 a3, .int .i64 a4] 25)).cell (p := ⟨w.heap.size + 1, 3, none⟩) (by simp only; omega)).trans yc3_141)
              have pc0_142 := (k1 (b9) 0 (by first | omega | (simp; done) | (simp; omega))).trans (((bal (Below.refl wq141.heap.size wq141) (Obj.cells #[.int .i64 a1, .int .i64 a2, .int .i64 a3, .int .i64 a4] 25)).cell (p := ⟨b9, 0, none⟩) (by simp only; omega)).trans pc0_141)
              have pc1_142 := (k1 (b9) 1 (by first | omega | (simp; done) | (simp; omega))).trans (((bal (Below.refl wq141.heap.size wq141) (Obj.cells #[.int .i64 a1, .int .i64 a2, .int .i64 a3, .int .i64 a4] 25)).cell (p := ⟨b9, 1, none⟩) (by simp only; omega)).trans pc1_141)
              have pc2_142 := (k1 (b9) 2 (by first | omega | (simp; done) | (simp; omega))).trans (((bal (Below.refl wq141.heap.size wq141) (Obj.cells #[.int .i64 a1, .int .i64 a2, .int .i64 a3, .int .i64 a4] 25)).cell (p := ⟨b9, 2, none⟩) (by simp only; omega)).trans pc2_141)
              have pc3_142 := (k1 (b9) 3 (by first | omega | (simp; done) | (simp; omega))).trans (((bal (Below.refl wq141.heap.size wq141) (Obj.cells #[.int .i64 a1, .int .i64 a2, .int .i64 a3, .int .i64 a4] 25)).cell (p := ⟨b9, 3, none⟩) (by simp only; omega)).trans pc3_141)
              have qc0_142 := (k1 (b10) 0 (by first | omega | (simp; done) | (simp; omega))).trans (((bal (Below.refl wq141.heap.size wq141) (Obj.cells #[.int .i64 a1, .int .i64 a2, .int .i64 a3, .int .i64 a4] 25)).cell (p := ⟨b10, 0, none⟩) (by simp only; omega)).trans qc0_141)
              have qc1_142 := (k1 (b10) 1 (by first | omega | (simp; done) | (simp; omega))).trans (((bal (Below.refl wq141.heap.size wq141) (Obj.cells #[.int .i64 a1, .int .i64 a2, .int .i64 a3, .int .i64 a4] 25)).cell (p := ⟨b10, 1, none⟩) (by simp only; omega)).trans qc1_141)
              have qc2_142 := (k1 (b10) 2 (by first | omega | (simp; done) | (simp; omega))).trans (((bal (Below.refl wq141.heap.size wq141) (Obj.cells #[.int .i64 a1, .int .i64 a2, .int .i64 a3, .int .i64 a4] 25)).cell (p := ⟨b10, 2, none⟩) (by simp only; omega)).trans qc2_141)
              have qc3_142 := (k1 (b10) 3 (by first | omega | (simp; done) | (simp; omega))).trans (((bal (Below.refl wq141.heap.size wq141) (Obj.cells #[.int .i64 a1, .int .i64 a2, .int .i64 a3, .int .i64 a4] 25)).cell (p := ⟨b10, 3, none⟩) (by simp only; omega)).trans qc3_141)
              have fc0_142 := (k1 (SB) 0 (by first | omega | (simp; done) | (simp; omega))).trans (((bal (Below.refl wq141.heap.size wq141) (Obj.cells #[.int .i64 a1, .int .i64 a2, .int .i64 a3, .int .i64 a4] 25)).cell (p := ⟨SB, 0, none⟩) (by simp only; omega)).trans fc0_141)
              have fc1_142 := (k1 (SB) 1 (by first | omega | (simp; done) | (simp; omega))).trans (((bal (Below.refl wq141.heap.size wq141) (Obj.cells #[.int .i64 a1, .int .i64 a2, .int .i64 a3, .int .i64 a4] 25)).cell (p := ⟨SB, 1, none⟩) (by simp only; omega)).trans fc1_141)
              have fc2_142 := (k1 (SB) 2 (by first | omega | (simp; done) | (simp; omega))).trans (((bal (Below.refl wq141.heap.size wq141) (Obj.cells #[.int .i64 a1, .int .i64 a2, .int .i64 a3, .int .i64 a4] 25)).cell (p := ⟨SB, 2, none⟩) (by simp only; omega)).trans fc2_141)
              have fc3_142 := (k1 (SB) 3 (by first | omega | (simp; done) | (simp; omega))).trans (((bal (Below.refl wq141.heap.size wq141) (Obj.cells #[.int .i64 a1, .int .i64 a2, .int .i64 a3, .int .i64 a4] 25)).cell (p := ⟨SB, 3, none⟩) (by simp only; omega)).trans fc3_141)
              have an0_142 := (k1 (wq141.heap.size) 0 (by first | omega | (simp; done) | (simp; omega))).trans (by go_cell : _ = some (.int .i64 a1))
              have an1_142 := (k1 (wq141.heap.size) 1 (by first | omega | (simp; done) | (simp; omega))).trans (by go_cell : _ = some (.int .i64 a2))
              have an2_142 := (k1 (wq141.heap.size) 2 (by first | omega | (simp; done) | (simp; omega))).trans (by go_cell : _ = some (.int .i64 a3))
              have an3_142 := (k1 (wq141.heap.size) 3 (by first | omega | (simp; done) | (simp; omega))).trans (by go_cell : _ = some (.int .i64 a4))
              have l142_0 : w.heap.size < wq142.heap.size := by omega
              have l142_1 : w.heap.size + 1 < wq142.heap.size := by omega
              have l142_2 : b9 < wq142.heap.size := by omega
              have l142_3 : b10 < wq142.heap.size := by omega
              have l142_4 : SB < wq142.heap.size := by omega
              have l142_5 : wq141.heap.size < wq142.heap.size := by omega
              clear hb hs142 k1 k2 xc0_141 xc1_141 xc2_141 xc3_141 yc0_141 yc1_141 yc2_141 yc3_141 pc0_141 pc1_141 pc2_141 pc3_141 qc0_141 qc1_141 qc2_141 qc3_141 fc0_141 fc1_141 fc2_141 fc3_141 l141_0 l141_1 l141_2 l141_3 l141_4 DS141
              by_cases her : er = 0
              · have hr1 : (er == 0) = true := beq_iff_eq.2 her
                have hr2 : (er != 0) = false := by simp [her]
                clear her
                have DL := DS142
                go_wp2_with fail
                go_roundw
                case rel =>
                  refine ⟨2, by first | rfl | go_num, by omega, Lib.hid (by go_grown), ?_, ?_, ?_, ?_, ?_, Lib.hid ?_⟩
                  · first | omega | (simp; done) | (simp; omega)
                  · first | omega | (simp; done) | (simp; omega)
                  · first | omega | (simp; done) | (simp; omega)
                  · first | omega | (simp; done) | (simp; omega)
                  · first | omega | (simp; done) | (simp; omega)
                  · refine ⟨?_, ?_, ?_, ?_, ?_, ?_, ?_, ?_, ?_, ?_, ?_, ?_, ?_, ?_, ?_, ?_, ?_, ?_, ?_, ?_⟩ <;> first | assumption | go_cell
                case measure => first | (simp [intOf]; done) | (simp [intOf]; omega)
              · have hr1 : (er == 0) = false := beq_eq_false_iff_ne.2 her
                have hr2 : (er != 0) = true := bne_iff_ne.2 her
                have DL := DS142
                go_wp2_with fail
                go_roundw
                case rel =>
                  refine ⟨2, by first | rfl | go_num, by omega, Lib.hid (by go_grown), ?_, ?_, ?_, ?_, ?_, Lib.hid ?_⟩
                  · first | omega | (simp; done) | (simp; omega)
                  · first | omega | (simp; done) | (simp; omega)
                  · first | omega | (simp; done) | (simp; omega)
                  · first | omega | (simp; done) | (simp; omega)
                  · first | omega | (simp; done) | (simp; omega)
                  · refine ⟨?_, ?_, ?_, ?_, ?_, ?_, ?_, ?_, ?_, ?_, ?_, ?_, ?_, ?_, ?_, ?_, ?_, ?_, ?_, ?_⟩ <;> first | assumption | go_cell
                case measure => first | (simp [intOf]; done) | (simp [intOf]; omega)
          · rcases grow_of (F := mulR) HB1.out HB2.out (fun r hr => mulR_mono ((inside_iff _ _).1 HB1.out).2.2 ((inside_iff _ _).1 HB2.out).2.2 ((inside_iff _ _).1 HB1.out).1 ((inside_iff _ _).1 HB2.out).1 hr) (fun _ _ _ h => mulR_ok h) ne0_mulR with ⟨a1, a2, a3, a4, b1, b2, b3, b4, ha, hb, hin⟩ | ⟨a1, a2, a3, a4, b1, b2, b3, b4, er, ek, ha, hb, hne⟩
            · have HA := Lib.hid ha
              have HB := Lib.hid hb
              have HIN := Lib.hid hin
              clear ha hb hin
              go_wp2_with fail
              refine (eMul_any a b c d s t u v _).mono ?_
              rw [HA.out]
              rintro e wq151 ⟨he, hb⟩
              obtain rfl : e = .returned (.tuple #[.agg #[.int .i64 a1, .int .i64 a2, .int .i64 a3, .int .i64 a4], .int .i64 0]) := he
              have hs151 := hb.size
              (try simp at hs151)
              have DS151 : Below w.heap.size w wq151 := Below.trans (by go_grown) (hb.mono (by have := DB.size; first | omega | (simp; done) | (simp; omega)))
              obtain ⟨k1, k2⟩ := bcl hb
              have xc0_151 := (k1 (w.heap.size) 0 (by first | omega | (simp; done) | (simp; omega))).trans (((Below.refl wr.heap.size wr).cell (p := ⟨w.heap.size, 0, none⟩) (by simp only; omega)).trans xc0)
              have xc1_151 := (k1 (w.heap.size) 1 (by first | omega | (simp; done) | (simp; omega))).trans (((Below.refl wr.heap.size wr).cell (p := ⟨w.heap.size, 1, none⟩) (by simp only; omega)).trans xc1)
              have xc2_151 := (k1 (w.heap.size) 2 (by first | omega | (simp; done) | (simp; omega))).trans (((Below.refl wr.heap.size wr).cell (p := ⟨w.heap.size, 2, none⟩) (by simp only; omega)).trans xc2)
              have xc3_151 := (k1 (w.heap.size) 3 (by first | omega | (simp; done) | (simp; omega))).trans (((Below.refl wr.heap.size wr).cell (p := ⟨w.heap.size, 3, none⟩) (by simp only; omega)).trans xc3)
              have yc0_151 := (k1 (w.heap.size + 1) 0 (by first | omega | (simp; done) | (simp; omega))).trans (((Below.refl wr.heap.size wr).cell (p := ⟨w.heap.size + 1, 0, none⟩) (by simp only; omega)).trans yc0)
              have yc1_151 := (k1 (w.heap.size + 1) 1 (by first | omega | (simp; done) | (simp; omega))).trans (((Below.refl wr.heap.size wr).cell (p := ⟨w.heap.size + 1, 1, none⟩) (by simp only; omega)).trans yc1)
              have yc2_151 := (k1 (w.heap.size + 1) 2 (by first | omega | (simp; done) | (simp; omega))).trans (((Below.refl wr.heap.size wr).cell (p := ⟨w.heap.size + 1, 2, none⟩) (by simp only; omega)).trans yc2)
              have yc3_151 := (k1 (w.heap.size + 1) 3 (by first | omega | (simp; done) | (simp; omega))).trans (((Below.refl wr.heap.size wr).cell (p := ⟨w.heap.size + 1, 3, none⟩) (by simp only; omega)).trans yc3)
              have pc0_151 := (k1 (b9) 0 (by first | omega | (simp; done) | (simp; omega))).trans (((Below.refl wr.heap.size wr).cell (p := ⟨b9, 0, none⟩) (by simp only; omega)).trans pc0)
              have pc1_151 := (k1 (b9) 1 (by first | omega | (simp; done) | (simp; omega))).trans (((Below.refl wr.heap.size wr).cell (p := ⟨b9, 1, none⟩) (by simp only; omega)).trans pc1)
              have pc2_151 := (k1 (b9) 2 (by first | omega | (simp; done) | (simp; omega))).trans (((Below.refl wr.heap.size wr).cell (p := ⟨b9, 2, none⟩) (by simp only; omega)).trans pc2)
              have pc3_151 := (k1 (b9) 3 (by first | omega | (simp; done) | (simp; omega))).trans (((Below.refl wr.heap.size wr).cell (p := ⟨b9, 3, none⟩) (by simp only; omega)).trans pc3)
              have qc0_151 := (k1 (b10) 0 (by first | omega | (simp; done) | (simp; omega))).trans (((Below.refl wr.heap.size wr).cell (p := ⟨b10, 0, none⟩) (by simp only; omega)).trans qc0)
              have qc1_151 := (k1 (b10) 1 (by first | omega | (simp; done) | (simp; omega))).trans (((Below.refl wr.heap.size wr).cell (p := ⟨b10, 1, none⟩) (by simp only; omega)).trans qc1)
              have qc2_151 := (k1 (b10) 2 (by first | omega | (simp; done) | (simp; omega))).trans (((Below.refl wr.heap.size wr).cell (p := ⟨b10, 2, none⟩) (by simp only; omega)).trans qc2)
              have qc3_151 := (k1 (b10) 3 (by first | omega | (simp; done) | (simp; omega))).trans (((Below.refl wr.heap.size wr).cell (p := ⟨b10, 3, none⟩) (by simp only; omega)).trans qc3)
              have fc0_151 := (k1 (SB) 0 (by first | omega | (simp; done) | (simp; omega))).trans (((Below.refl wr.heap.size wr).cell (p := ⟨SB, 0, none⟩) (by simp only; omega)).trans fc0)
              have fc1_151 := (k1 (SB) 1 (by first | omega | (simp; done) | (simp; omega))).trans (((Below.refl wr.heap.size wr).cell (p := ⟨SB, 1, none⟩) (by simp only; omega)).trans fc1)
              have fc2_151 := (k1 (SB) 2 (by first | omega | (simp; done) | (simp; omega))).trans (((Below.refl wr.heap.size wr).cell (p := ⟨SB, 2, none⟩) (by simp only; omega)).trans fc2)
              have fc3_151 := (k1 (SB) 3 (by first | omega | (simp; done) | (simp; omega))).trans (((Below.refl wr.heap.size wr).cell (p := ⟨SB, 3, none⟩) (by simp only; omega)).trans fc3)
              have l151_0 : w.heap.size < wq151.heap.size := by omega
              have l151_1 : w.heap.size + 1 < wq151.heap.size := by omega
              have l151_2 : b9 < wq151.heap.size := by omega
              have l151_3 : b10 < wq151.heap.size := by omega
              have l151_4 : SB < wq151.heap.size := by omega
              clear hb hs151 k1 k2 xc0 xc1 xc2 xc3 yc0 yc1 yc2 yc3 pc0 pc1 pc2 pc3 qc0 qc1 qc2 qc3 fc0 fc1 fc2 fc3 t0 t1 t2 t3 t4 DB
              go_wp2_with fail
              refine (eMul_any p1 p2 p3 p4 q1 q2 q3 q4 _).mono ?_
              rw [HB.out]
              rintro e wq152 ⟨he, hb⟩
              obtain rfl : e = .returned (.tuple #[.agg #[.int .i64 b1, .int .i64 b2, .int .i64 b3, .int .i64 b4], .int .i64 0]) := he
              have hs152 := hb.size
              (try simp at hs152)
              have DS152 : Below w.heap.size w wq152 := Below.trans (by go_grown) (hb.mono (by have := DS151.size; first | omega | (simp; done) | (simp; omega)))
              obtain ⟨k1, k2⟩ := bcl hb
              have xc0_152 := (k1 (w.heap.size) 0 (by first | omega | (simp; done) | (simp; omega))).trans (((bal (Below.refl wq151.heap.size wq151) (Obj.cells #[.int .i64 a1, .int .i64 a2, .int .i64 a3, .int .i64 a4] 25)).cell (p := ⟨w.heap.size, 0, none⟩) (by simp only; omega)).trans xc0_151)
              have xc1_152 := (k1 (w.heap.size) 1 (by first | omega | (simp; done) | (simp; omega))).trans (((bal (Below.refl wq151.heap.size wq151) (Obj.cells #[.int .i64 a1, .int .i64 a2, .int .i64 a3, .int .i64 a4] 25)).cell (p := ⟨w.heap.size, 1, none⟩) (by simp only; omega)).trans xc1_151)
              have xc2_152 := (k1 (w.heap.size) 2 (by first | omega | (simp; done) | (simp; omega))).trans (((bal (Below.refl wq151.heap.size wq151) (Obj.cells #[.int .i64 a1, .int .i64 a2, .int .i64 a3, .int .i64 a4] 25)).cell (p := ⟨w.heap.size, 2, none⟩) (by simp only; omega)).trans xc2_151)
              have xc3_152 := (k1 (w.heap.size) 3 (by first | omega | (simp; done) | (simp; omega))).trans (((bal (Below.refl wq151.heap.size wq151) (Obj.cells #[.int .i64 a1, .int .i64 a2, .int .i64 a3, .int .i64 a4] 25)).cell (p := ⟨w.heap.size, 3, none⟩) (by simp only; omega)).trans xc3_151)
              have yc0_152 := (k1 (w.heap.size + 1) 0 (by first | omega | (simp; done) | (simp; omega))).trans (((bal (Below.refl wq151.heap.size wq151) (Obj.cells #[.int .i64 a1, .int .i64 a2, .int .i64 a3, .int .i64 a4] 25)).cell (p := ⟨w.heap.size + 1, 0, none⟩) (by simp only; omega)).trans yc0_151)
              have yc1_152 := (k1 (w.heap.size + 1) 1 (by first | omega | (simp; done) | (simp; omega))).trans (((bal (Below.refl wq151.heap.size wq151) (Obj.cells #[.int .i64 a1, .int .i64 a2, .int .i64 a3, .int .i64 a4] 25)).cell (p := ⟨w.heap.size + 1, 1, none⟩) (by simp only; omega)).trans yc1_151)
              have yc2_152 := (k1 (w.heap.size + 1) 2 (by first | omega | (simp; done) | (simp; omega))).trans (((bal (Below.refl wq151.heap.size wq151) (Obj.cells #[.int .i64 a1, .int .i64 a2, .int .i64 a3, .int .i64 a4] 25)).cell (p := ⟨w.heap.size + 1, 2, none⟩) (by simp only; omega)).trans yc2_151)
              have yc3_152 := (k1 (w.heap.size + 1) 3 (by first | omega | (simp; done) | (simp; omega))).trans (((bal (Below.refl wq151.heap.size wq151) (Obj.cells #[.int .i64 a1, .int .i64 a2, .int .i64 a3, .int .i64 a4] 25)).cell (p := ⟨w.heap.size + 1, 3, none⟩) (by simp only; omega)).trans yc3_151)
              have pc0_152 := (k1 (b9) 0 (by first | omega | (simp; done) | (simp; omega))).trans (((bal (Below.refl wq151.heap.size wq151) (Obj.cells #[.int .i64 a1, .int .i64 a2, .int .i64 a3, .int .i64 a4] 25)).cell (p := ⟨b9, 0, none⟩) (by simp only; omega)).trans pc0_151)
              have pc1_152 := (k1 (b9) 1 (by first | omega | (simp; done) | (simp; omega))).trans (((bal (Below.refl wq151.heap.size wq151) (Obj.cells #[.int .i64 a1, .int .i64 a2, .int .i64 a3, .int .i64 a4] 25)).cell (p := ⟨b9, 1, none⟩) (by simp only; omega)).trans pc1_151)
              have pc2_152 := (k1 (b9) 2 (by first | omega | (simp; done) | (simp; omega))).trans (((bal (Below.refl wq151.heap.size wq151) (Obj.cells #[.int .i64 a1, .int .i64 a2, .int .i64 a3, .int .i64 a4] 25)).cell (p := ⟨b9, 2, none⟩) (by simp only; omega)).trans pc2_151)
              have pc3_152 := (k1 (b9) 3 (by first | omega | (simp; done) | (simp; omega))).trans (((bal (Below.refl wq151.heap.size wq151) (Obj.cells #[.int .i64 a1, .int .i64 a2, .int .i64 a3, .int .i64 a4] 25)).cell (p := ⟨b9, 3, none⟩) (by simp only; omega)).trans pc3_151)
              have qc0_152 := (k1 (b10) 0 (by first | omega | (simp; done) | (simp; omega))).trans (((bal (Below.refl wq151.heap.size wq151) (Obj.cells #[.int .i64 a1, .int .i64 a2, .int .i64 a3, .int .i64 a4] 25)).cell (p := ⟨b10, 0, none⟩) (by simp only; omega)).trans qc0_151)
              have qc1_152 := (k1 (b10) 1 (by first | omega | (simp; done) | (simp; omega))).trans (((bal (Below.refl wq151.heap.size wq151) (Obj.cells #[.int .i64 a1, .int .i64 a2, .int .i64 a3, .int .i64 a4] 25)).cell (p := ⟨b10, 1, none⟩) (by simp only; omega)).trans qc1_151)
              have qc2_152 := (k1 (b10) 2 (by first | omega | (simp; done) | (simp; omega))).trans (((bal (Below.refl wq151.heap.size wq151) (Obj.cells #[.int .i64 a1, .int .i64 a2, .int .i64 a3, .int .i64 a4] 25)).cell (p := ⟨b10, 2, none⟩) (by simp only; omega)).trans qc2_151)
              have qc3_152 := (k1 (b10) 3 (by first | omega | (simp; done) | (simp; omega))).trans (((bal (Below.refl wq151.heap.size wq151) (Obj.cells #[.int .i64 a1, .int .i64 a2, .int .i64 a3, .int .i64 a4] 25)).cell (p := ⟨b10, 3, none⟩) (by simp only; omega)).trans qc3_151)
              have fc0_152 := (k1 (SB) 0 (by first | omega | (simp; done) | (simp; omega))).trans (((bal (Below.refl wq151.heap.size wq151) (Obj.cells #[.int .i64 a1, .int .i64 a2, .int .i64 a3, .int .i64 a4] 25)).cell (p := ⟨SB, 0, none⟩) (by simp only; omega)).trans fc0_151)
              have fc1_152 := (k1 (SB) 1 (by first | omega | (simp; done) | (simp; omega))).trans (((bal (Below.refl wq151.heap.size wq151) (Obj.cells #[.int .i64 a1, .int .i64 a2, .int .i64 a3, .int .i64 a4] 25)).cell (p := ⟨SB, 1, none⟩) (by simp only; omega)).trans fc1_151)
              have fc2_152 := (k1 (SB) 2 (by first | omega | (simp; done) | (simp; omega))).trans (((bal (Below.refl wq151.heap.size wq151) (Obj.cells #[.int .i64 a1, .int .i64 a2, .int .i64 a3, .int .i64 a4] 25)).cell (p := ⟨SB, 2, none⟩) (by simp only; omega)).trans fc2_151)
              have fc3_152 := (k1 (SB) 3 (by first | omega | (simp; done) | (simp; omega))).trans (((bal (Below.refl wq151.heap.size wq151) (Obj.cells #[.int .i64 a1, .int .i64 a2, .int .i64 a3, .int .i64 a4] 25)).cell (p := ⟨SB, 3, none⟩) (by simp only; omega)).trans fc3_151)
              have an0_152 := (k1 (wq151.heap.size) 0 (by first | omega | (simp; done) | (simp; omega))).trans (by go_cell : _ = some (.int .i64 a1))
              have an1_152 := (k1 (wq151.heap.size) 1 (by first | omega | (simp; done) | (simp; omega))).trans (by go_cell : _ = some (.int .i64 a2))
              have an2_152 := (k1 (wq151.heap.size) 2 (by first | omega | (simp; done) | (simp; omega))).trans (by go_cell : _ = some (.int .i64 a3))
              have an3_152 := (k1 (wq151.heap.size) 3 (by first | omega | (simp; done) | (simp; omega))).trans (by go_cell : _ = some (.int .i64 a4))
              have l152_0 : w.heap.size < wq152.heap.size := by omega
              have l152_1 : w.heap.size + 1 < wq152.heap.size := by omega
              have l152_2 : b9 < wq152.heap.size := by omega
              have l152_3 : b10 < wq152.heap.size := by omega
              have l152_4 : SB < wq152.heap.size := by omega
              have l152_5 : wq151.heap.size < wq152.heap.size := by omega
              clear hb hs152 k1 k2 xc0_151 xc1_151 xc2_151 xc3_151 yc0_151 yc1_151 yc2_151 yc3_151 pc0_151 pc1_151 pc2_151 pc3_151 qc0_151 qc1_151 qc2_151 qc3_151 fc0_151 fc1_151 fc2_151 fc3_151 l151_0 l151_1 l151_2 l151_3 l151_4 DS151
              go_wp2_with fail
              refine (inL_any a1 a2 a3 a4 b1 b2 b3 b4 _).mono ?_
              rw [HIN.out]
              rintro e wq153 ⟨he, hb⟩
              obtain rfl : e = .returned (.bool true) := he
              have hs153 := hb.size
              (try simp at hs153)
              have DS153 : Below w.heap.size w wq153 := Below.trans (by go_grown) (hb.mono (by have := DS152.size; first | omega | (simp; done) | (simp; omega)))
              obtain ⟨k1, k2⟩ := bcl hb
              have xc0_153 := (k1 (w.heap.size) 0 (by first | omega | (simp; done) | (simp; omega))).trans (((bal (Below.refl wq152.heap.size wq152) (Obj.cells #[.int .i64 b1, .int .i64 b2, .int .i64 b3, .int .i64 b4] 25)).cell (p := ⟨w.heap.size, 0, none⟩) (by simp only; omega)).trans xc0_152)
              have xc1_153 := (k1 (w.heap.size) 1 (by first | omega | (simp; done) | (simp; omega))).trans (((bal (Below.refl wq152.heap.size wq152) (Obj.cells #[.int .i64 b1, .int .i64 b2, .int .i64 b3, .int .i64 b4] 25)).cell (p := ⟨w.heap.size, 1, none⟩) (by simp only; omega)).trans xc1_152)
              have xc2_153 := (k1 (w.heap.size) 2 (by first | omega | (simp; done) | (simp; omega))).trans (((bal (Below.refl wq152.heap.size wq152) (Obj.cells #[.int .i64 b1, .int .i64 b2, .int .i64 b3, .int .i64 b4] 25)).cell (p := ⟨w.heap.size, 2, none⟩) (by simp only; omega)).trans xc2_152)
              have xc3_153 := (k1 (w.heap.size) 3 (by first | omega | (simp; done) | (simp; omega))).trans (((bal (Below.refl wq152.heap.size wq152) (Obj.cells #[.int .i64 b1, .int .i64 b2, .int .i64 b3, .int .i64 b4] 25)).cell (p := ⟨w.heap.size, 3, none⟩) (by simp only; omega)).trans xc3_152)
              have yc0_153 := (k1 (w.heap.size + 1) 0 (by first | omega | (simp; done) | (simp; omega))).trans (((bal (Below.refl wq152.heap.size wq152) (Obj.cells #[.int .i64 b1, .int .i64 b2, .int .i64 b3, .int .i64 b4] 25)).cell (p := ⟨w.heap.size + 1, 0, none⟩) (by simp only; omega)).trans yc0_152)
              have yc1_153 := (k1 (w.heap.size + 1) 1 (by first | omega | (simp; done) | (simp; omega))).trans (((bal (Below.refl wq152.heap.size wq152) (Obj.cells #[.int .i64 b1, .int .i64 b2, .int .i64 b3, .int .i64 b4] 25)).cell (p := ⟨w.heap.size + 1, 1, none⟩) (by simp only; omega)).trans yc1_152)
              have yc2_153 := (k1 (w.heap.size + 1) 2 (by first | omega | (simp; done) | (simp; omega))).trans (((bal (Below.refl wq152.heap.size wq152) (Obj.cells #[.int .i64 b1, .int .i64 b2, .int .i64 b3, .int .i64 b4] 25)).cell (p := ⟨w.heap.size + 1, 2, none⟩) (by simp only; omega)).trans yc2_152)
              have yc3_153 := (k1 (w.heap.size + 1) 3 (by first | omega | (simp; done) | (simp; omega))).trans (((bal (Below.refl wq152.heap.size wq152) (Obj.cells #[.int .i64 b1, .int .i64 b2, .int .i64 b3, .int .i64 b4] 25)).cell (p := ⟨w.heap.size + 1, 3, none⟩) (by simp only; omega)).trans yc3_152)
              have pc0_153 := (k1 (b9) 0 (by first | omega | (simp; done) | (simp; omega))).trans (((bal (Below.refl wq152.heap.size wq152) (Obj.cells #[.int .i64 b1, .int .i64 b2, .int .i64 b3, .int .i64 b4] 25)).cell (p := ⟨b9, 0, none⟩) (by simp only; omega)).trans pc0_152)
              have pc1_153 := (k1 (b9) 1 (by first | omega | (simp; done) | (simp; omega))).trans (((bal (Below.refl wq152.heap.size wq152) (Obj.cells #[.int .i64 b1, .int .i64 b2, .int .i64 b3, .int .i64 b4] 25)).cell (p := ⟨b9, 1, none⟩) (by simp only; omega)).trans pc1_152)
              have pc2_153 := (k1 (b9) 2 (by first | omega | (simp; done) | (simp; omega))).trans (((bal (Below.refl wq152.heap.size wq152) (Obj.cells #[.int .i64 b1, .int .i64 b2, .int .i64 b3, .int .i64 b4] 25)).cell (p := ⟨b9, 2, none⟩) (by simp only; omega)).trans pc2_152)
              have pc3_153 := (k1 (b9) 3 (by first | omega | (simp; done) | (simp; omega))).trans (((bal (Below.refl wq152.heap.size wq152) (Obj.cells #[.int .i64 b1, .int .i64 b2, .int .i64 b3, .int .i64 b4] 25)).cell (p := ⟨b9, 3, none⟩) (by simp only; omega)).trans pc3_152)
              have qc0_153 := (k1 (b10) 0 (by first | omega | (simp; done) | (simp; omega))).trans (((bal (Below.refl wq152.heap.size wq152) (Obj.cells #[.int .i64 b1, .int .i64 b2, .int .i64 b3, .int .i64 b4] 25)).cell (p := ⟨b10, 0, none⟩) (by simp only; omega)).trans qc0_152)
              have qc1_153 := (k1 (b10) 1 (by first | omega | (simp; done) | (simp; omega))).trans (((bal (Below.refl wq152.heap.size wq152) (Obj.cells #[.int .i64 b1, .int .i64 b2, .int .i64 b3, .int .i64 b4] 25)).cell (p := ⟨b10, 1, none⟩) (by simp only; omega)).trans qc1_152)
              have qc2_153 := (k1 (b10) 2 (by first | omega | (simp; done) | (simp; omega))).trans (((bal (Below.refl wq152.heap.size wq152) (Obj.cells #[.int .i64 b1, .int .i64 b2, .int .i64 b3, .int .i64 b4] 25)).cell (p := ⟨b10, 2, none⟩) (by simp only; omega)).trans qc2_152)
              have qc3_153 := (k1 (b10) 3 (by first | omega | (simp; done) | (simp; omega))).trans (((bal (Below.refl wq152.heap.size wq152) (Obj.cells #[.int .i64 b1, .int .i64 b2, .int .i64 b3, .int .i64 b4] 25)).cell (p := ⟨b10, 3, none⟩) (by simp only; omega)).trans qc3_152)
              have fc0_153 := (k1 (SB) 0 (by first | omega | (simp; done) | (simp; omega))).trans (((bal (Below.refl wq152.heap.size wq152) (Obj.cells #[.int .i64 b1, .int .i64 b2, .int .i64 b3, .int .i64 b4] 25)).cell (p := ⟨SB, 0, none⟩) (by simp only; omega)).trans fc0_152)
              have fc1_153 := (k1 (SB) 1 (by first | omega | (simp; done) | (simp; omega))).trans (((bal (Below.refl wq152.heap.size wq152) (Obj.cells #[.int .i64 b1, .int .i64 b2, .int .i64 b3, .int .i64 b4] 25)).cell (p := ⟨SB, 1, none⟩) (by simp only; omega)).trans fc1_152)
              have fc2_153 := (k1 (SB) 2 (by first | omega | (simp; done) | (simp; omega))).trans (((bal (Below.refl wq152.heap.size wq152) (Obj.cells #[.int .i64 b1, .int .i64 b2, .int .i64 b3, .int .i64 b4] 25)).cell (p := ⟨SB, 2, none⟩) (by simp only; omega)).trans fc2_152)
              have fc3_153 := (k1 (SB) 3 (by first | omega | (simp; done) | (simp; omega))).trans (((bal (Below.refl wq152.heap.size wq152) (Obj.cells #[.int .i64 b1, .int .i64 b2, .int .i64 b3, .int .i64 b4] 25)).cell (p := ⟨SB, 3, none⟩) (by simp only; omega)).trans fc3_152)
              have l153_0 : w.heap.size < wq153.heap.size := by omega
              have l153_1 : w.heap.size + 1 < wq153.heap.size := by omega
              have l153_2 : b9 < wq153.heap.size := by omega
              have l153_3 : b10 < wq153.heap.size := by omega
              have l153_4 : SB < wq153.heap.size := by omega
              clear hb hs153 k1 k2 xc0_152 xc1_152 xc2_152 xc3_152 yc0_152 yc1_152 yc2_152 yc3_152 pc0_152 pc1_152 pc2_152 pc3_152 qc0_152 qc1_152 qc2_152 qc3_152 fc0_152 fc1_152 fc2_152 fc3_152 an0_152 an1_152 an2_152 an3_152 l152_0 l152_1 l152_2 l152_3 l152_4 l152_5 DS152
              have DL := DS153
              go_wp2_with fail
              go_roundw
              case rel =>
                refine ⟨3, by first | rfl | go_num, by omega, Lib.hid (by go_grown), ?_, ?_, ?_, ?_, ?_, Lib.hid ?_⟩
                · first | omega | (simp; done) | (simp; omega)
                · first | omega | (simp; done) | (simp; omega)
                · first | omega | (simp; done) | (simp; omega)
                · first | omega | (simp; done) | (simp; omega)
                · first | omega | (simp; done) | (simp; omega)
                · refine ⟨?_, ?_, ?_, ?_, ?_, ?_, ?_, ?_, ?_, ?_, ?_, ?_, ?_, ?_, ?_, ?_, ?_, ?_, ?_, ?_⟩ <;> first | assumption | go_cell
              case measure => first | (simp [intOf]; done) | (simp [intOf]; omega)
            · have HA := Lib.hid ha
              have HB := Lib.hid hb
              have hk1 : (ek == 0) = false := beq_eq_false_iff_ne.2 hne
              have hk2 : (ek != 0) = true := bne_iff_ne.2 hne
              clear ha hb
              go_wp2_with fail
              refine (eMul_any a b c d s t u v _).mono ?_
              rw [HA.out]
              rintro e wq161 ⟨he, hb⟩
              obtain rfl : e = .returned (.tuple #[.agg #[.int .i64 a1, .int .i64 a2, .int .i64 a3, .int .i64 a4], .int .i64 er]) := he
              have hs161 := hb.size
              (try simp at hs161)
              have DS161 : Below w.heap.size w wq161 := Below.trans (by go_grown) (hb.mono (by have := DB.size; first | omega | (simp; done) | (simp; omega)))
              obtain ⟨k1, k2⟩ := bcl hb
              have xc0_161 := (k1 (w.heap.size) 0 (by first | omega | (simp; done) | (simp; omega))).trans (((Below.refl wr.heap.size wr).cell (p := ⟨w.heap.size, 0, none⟩) (by simp only; omega)).trans xc0)
              have xc1_161 := (k1 (w.heap.size) 1 (by first | omega | (simp; done) | (simp; omega))).trans (((Below.refl wr.heap.size wr).cell (p := ⟨w.heap.size, 1, none⟩) (by simp only; omega)).trans xc1)
              have xc2_161 := (k1 (w.heap.size) 2 (by first | omega | (simp; done) | (simp; omega))).trans (((Below.refl wr.heap.size wr).cell (p := ⟨w.heap.size, 2, none⟩) (by simp only; omega)).trans xc2)
              have xc3_161 := (k1 (w.heap.size) 3 (by first | omega | (simp; done) | (simp; omega))).trans (((Below.refl wr.heap.size wr).cell (p := ⟨w.heap.size, 3, none⟩) (by simp only; omega)).trans xc3)
              have yc0_161 := (k1 (w.heap.size + 1) 0 (by first | omega | (simp; done) | (simp; omega))).trans (((Below.refl wr.heap.size wr).cell (p := ⟨w.heap.size + 1, 0, none⟩) (by simp only; omega)).trans yc0)
              have yc1_161 := (k1 (w.heap.size + 1) 1 (by first | omega | (simp; done) | (simp; omega))).trans (((Below.refl wr.heap.size wr).cell (p := ⟨w.heap.size + 1, 1, none⟩) (by simp only; omega)).trans yc1)
              have yc2_161 := (k1 (w.heap.size + 1) 2 (by first | omega | (simp; done) | (simp; omega))).trans (((Below.refl wr.heap.size wr).cell (p := ⟨w.heap.size + 1, 2, none⟩) (by simp only; omega)).trans yc2)
              have yc3_161 := (k1 (w.heap.size + 1) 3 (by first | omega | (simp; done) | (simp; omega))).trans (((Below.refl wr.heap.size wr).cell (p := ⟨w.heap.size + 1, 3, none⟩) (by simp only; omega)).trans yc3)
              have pc0_161 := (k1 (b9) 0 (by first | omega | (simp; done) | (simp; omega))).trans (((Below.refl wr.heap.size wr).cell (p := ⟨b9, 0, none⟩) (by simp only; omega)).trans pc0)
              have pc1_161 := (k1 (b9) 1 (by first | omega | (simp; done) | (simp; omega))).trans (((Below.refl wr.heap.size wr).cell (p := ⟨b9, 1, none⟩) (by simp only; omega)).trans pc1)
              have pc2_161 := (k1 (b9) 2 (by first | omega | (simp; done) | (simp; omega))).trans (((Below.refl wr.heap.size wr).cell (p := ⟨b9, 2, none⟩) (by simp only; omega)).trans pc2)
              have pc3_161 := (k1 (b9) 3 (by first | omega | (simp; done) | (simp; omega))).trans (((Below.refl wr.heap.size wr).cell (p := ⟨b9, 3, none⟩) (by simp only; omega)).trans pc3)
              have qc0_161 := (k1 (b10) 0 (by first | omega | (simp; done) | (simp; omega))).trans (((Below.refl wr.heap.size wr).cell (p := ⟨b10, 0, none⟩) (by simp only; omega)).trans qc0)
              have qc1_161 := (k1 (b10) 1 (by first | omega | (simp; done) | (simp; omega))).trans (((Below.refl wr.heap.size wr).cell (p := ⟨b10, 1, none⟩) (by simp only; omega)).trans qc1)
              have qc2_161 := (k1 (b10) 2 (by first | omega | (simp; done) | (simp; omega))).trans (((Below.refl wr.heap.size wr).cell (p := ⟨b10, 2, none⟩) (by simp only; omega)).trans qc2)
              have qc3_161 := (k1 (b10) 3 (by first | omega | (simp; done) | (simp; omega))).trans (((Below.refl wr.heap.size wr).cell (p := ⟨b10, 3, none⟩) (by simp only; omega)).trans qc3)
              have fc0_161 := (k1 (SB) 0 (by first | omega | (simp; done) | (simp; omega))).trans (((Below.refl wr.heap.size wr).cell (p := ⟨SB, 0, none⟩) (by simp only; omega)).trans fc0)
              have fc1_161 := (k1 (SB) 1 (by first | omega | (simp; done) | (simp; omega))).trans (((Below.refl wr.heap.size wr).cell (p := ⟨SB, 1, none⟩) (by simp only; omega)).trans fc1)
              have fc2_161 := (k1 (SB) 2 (by first | omega | (simp; done) | (simp; omega))).trans (((Below.refl wr.heap.size wr).cell (p := ⟨SB, 2, none⟩) (by simp only; omega)).trans fc2)
              have fc3_161 := (k1 (SB) 3 (by first | omega | (simp; done) | (simp; omega))).trans (((Below.refl wr.heap.size wr).cell (p := ⟨SB, 3, none⟩) (by simp only; omega)).trans fc3)
              have l161_0 : w.heap.size < wq161.heap.size := by omega
              have l161_1 : w.heap.size + 1 < wq161.heap.size := by omega
              have l161_2 : b9 < wq161.heap.size := by omega
              have l161_3 : b10 < wq161.heap.size := by omega
              have l161_4 : SB < wq161.heap.size := by omega
              clear hb hs161 k1 k2 xc0 xc1 xc2 xc3 yc0 yc1 yc2 yc3 pc0 pc1 pc2 pc3 qc0 qc1 qc2 qc3 fc0 fc1 fc2 fc3 t0 t1 t2 t3 t4 DB
              go_wp2_with fail
              refine (eMul_any p1 p2 p3 p4 q1 q2 q3 q4 _).mono ?_
              rw [HB.out]
              rintro e wq162 ⟨he, hb⟩
              obtain rfl : e = .returned (.tuple #[.agg #[.int .i64 b1, .int .i64 b2, .int .i64 b3, .int .i64 b4], .int .i64 ek]) := he
              have hs162 := hb.size
              (try simp at hs162)
              have DS162 : Below w.heap.size w wq162 := Below.trans (by go_grown) (hb.mono (by have := DS161.size; first | omega | (simp; done) | (simp; omega)))
              obtain ⟨k1, k2⟩ := bcl hb
              have xc0_162 := (k1 (w.heap.size) 0 (by first | omega | (simp; done) | (simp; omega))).trans (((bal (Below.refl wq161.heap.size wq161) (Obj.cells #[.int .i64 a1, .int .i64 a2, .int .i64 a3, .int .i64 a4] 25)).cell (p := ⟨w.heap.size, 0, none⟩) (by simp only; omega)).trans xc0_161)
              have xc1_162 := (k1 (w.heap.size) 1 (by first | omega | (simp; done) | (simp; omega))).trans (((bal (Below.refl wq161.heap.size wq161) (Obj.cells #[.int .i64 a1, .int .i64 a2, .int .i64 a3, .int .i64 a4] 25)).cell (p := ⟨w.heap.size, 1, none⟩) (by simp only; omega)).trans xc1_161)
              have xc2_162 := (k1 (w.heap.size) 2 (by first | omega | (simp; done) | (simp; omega))).trans (((bal (Below.refl wq161.heap.size wq161) (Obj.cells #[.int .i64 a1, .int .i64 a2, .int .i64 a3, .int .i64 a4] 25)).cell (p := ⟨w.heap.size, 2, none⟩) (by simp only; omega)).trans xc2_161)
              have xc3_162 := (k1 (w.heap.size) 3 (by first | omega | (simp; done) | (simp; omega))).trans (((bal (Below.refl wq161.heap.size wq161) (Obj.cells #[.int .i64 a1, .int .i64 a2, .int .i64 a3, .int .i64 a4] 25)).cell (p := ⟨w.heap.size, 3, none⟩) (by simp only; omega)).trans xc3_161)
              have yc0_162 := (k1 (w.heap.size + 1) 0 (by first | omega | (simp; done) | (simp; omega))).trans (((bal (Below.refl wq161.heap.size wq161) (Obj.cells #[.int .i64 a1, .int .i64 a2, .int .i64 a3, .int .i64 a4] 25)).cell (p := ⟨w.heap.size + 1, 0, none⟩) (by simp only; omega)).trans yc0_161)
              have yc1_162 := (k1 (w.heap.size + 1) 1 (by first | omega | (simp; done) | (simp; omega))).trans (((bal (Below.refl wq161.heap.size wq161) (Obj.cells #[.int .i64 a1, .int .i64 a2, .int .i64 a3, .int .i64 a4] 25)).cell (p := ⟨w.heap.size + 1, 1, none⟩) (by simp only; omega)).trans yc1_161)
              have yc2_162 := (k1 (w.heap.size + 1) 2 (by first | omega | (simp; done) | (simp; omega))).trans (((bal (Below.refl wq161.heap.size wq161) (Obj.cells #[.int .i64 a1, .int .i64 a2, .int .i64 a3, .int .i64 a4] 25)).cell (p := ⟨w.heap.size + 1, 2, none⟩) (by simp only; omega)).trans yc2_161)
              have yc3_162 := (k1 (w.heap.size + 1) 3 (by first | omega | (simp; done) | (simp; omega))).trans (((bal (Below.refl wq161.heap.size wq161) (Obj.cells #[.int .i64 a1, .int .i64 a2, .int .i64 a3, .int .i64 a4] 25)).cell (p := ⟨w.heap.size + 1, 3, none⟩) (by simp only; omega)).trans yc3_161)
              have pc0_162 := (k1 (b9) 0 (by first | omega | (simp; done) | (simp; omega))).trans (((bal (Below.refl wq161.heap.size wq161) (Obj.cells #[.int .i64 a1, .int .i64 a2, .int .i64 a3, .int .i64 a4] 25)).cell (p := ⟨b9, 0, none⟩) (by simp only; omega)).trans pc0_161)
              have pc1_162 := (k1 (b9) 1 (by first | omega | (simp; done) | (simp; omega))).trans (((bal (Below.refl wq161.heap.size wq161) (Obj.cells #[.int .i64 a1, .int .i64 a2, .int .i64 a3, .int .i64 a4] 25)).cell (p := ⟨b9, 1, none⟩) (by simp only; omega)).trans pc1_161)
              have pc2_162 := (k1 (b9) 2 (by first | omega | (simp; done) | (simp; omega))).trans (((bal (Below.refl wq161.heap.size wq161) (Obj.cells #[.int .i64 a1, .int .i64 a2, .int .i64 a3, .int .i64 a4] 25)).cell (p := ⟨b9, 2, none⟩) (by simp only; omega)).trans pc2_161)
              have pc3_162 := (k1 (b9) 3 (by first | omega | (simp; done) | (simp; omega))).trans (((bal (Below.refl wq161.heap.size wq161) (Obj.cells #[.int .i64 a1, .int .i64 a2, .int .i64 a3, .int .i64 a4] 25)).cell (p := ⟨b9, 3, none⟩) (by simp only; omega)).trans pc3_161)
              have qc0_162 := (k1 (b10) 0 (by first | omega | (simp; done) | (simp; omega))).trans (((bal (Below.refl wq161.heap.size wq161) (Obj.cells #[.int .i64 a1, .int .i64 a2, .int .i64 a3, .int .i64 a4] 25)).cell (p := ⟨b10, 0, none⟩) (by simp only; omega)).trans qc0_161)
              have qc1_162 := (k1 (b10) 1 (by first | omega | (simp; done) | (simp; omega))).trans (((bal (Below.refl wq161.heap.size wq161) (Obj.cells #[.int .i64 a1, .int .i64 a2, .int .i64 a3, .int .i64 a4] 25)).cell (p := ⟨b10, 1, none⟩) (by simp only; omega)).trans qc1_161)
              have qc2_162 := (k1 (b10) 2 (by first | omega | (simp; done) | (simp; omega))).trans (((bal (Below.refl wq161.heap.size wq161) (Obj.cells #[.int .i64 a1, .int .i64 a2, .int .i64 a3, .int .i64 a4] 25)).cell (p := ⟨b10, 2, none⟩) (by simp only; omega)).trans qc2_161)
              have qc3_162 := (k1 (b10) 3 (by first | omega | (simp; done) | (simp; omega))).trans (((bal (Below.refl wq161.heap.size wq161) (Obj.cells #[.int .i64 a1, .int .i64 a2, .int .i64 a3, .int .i64 a4] 25)).cell (p := ⟨b10, 3, none⟩) (by simp only; omega)).trans qc3_161)
              have fc0_162 := (k1 (SB) 0 (by first | omega | (simp; done) | (simp; omega))).trans (((bal (Below.refl wq161.heap.size wq161) (Obj.cells #[.int .i64 a1, .int .i64 a2, .int .i64 a3, .int .i64 a4] 25)).cell (p := ⟨SB, 0, none⟩) (by simp only; omega)).trans fc0_161)
              have fc1_162 := (k1 (SB) 1 (by first | omega | (simp; done) | (simp; omega))).trans (((bal (Below.refl wq161.heap.size wq161) (Obj.cells #[.int .i64 a1, .int .i64 a2, .int .i64 a3, .int .i64 a4] 25)).cell (p := ⟨SB, 1, none⟩) (by simp only; omega)).trans fc1_161)
              have fc2_162 := (k1 (SB) 2 (by first | omega | (simp; done) | (simp; omega))).trans (((bal (Below.refl wq161.heap.size wq161) (Obj.cells #[.int .i64 a1, .int .i64 a2, .int .i64 a3, .int .i64 a4] 25)).cell (p := ⟨SB, 2, none⟩) (by simp only; omega)).trans fc2_161)
              have fc3_162 := (k1 (SB) 3 (by first | omega | (simp; done) | (simp; omega))).trans (((bal (Below.refl wq161.heap.size wq161) (Obj.cells #[.int .i64 a1, .int .i64 a2, .int .i64 a3, .int .i64 a4] 25)).cell (p := ⟨SB, 3, none⟩) (by simp only; omega)).trans fc3_161)
              have an0_162 := (k1 (wq161.heap.size) 0 (by first | omega | (simp; done) | (simp; omega))).trans (by go_cell : _ = some (.int .i64 a1))
              have an1_162 := (k1 (wq161.heap.size) 1 (by first | omega | (simp; done) | (simp; omega))).trans (by go_cell : _ = some (.int .i64 a2))
              have an2_162 := (k1 (wq161.heap.size) 2 (by first | omega | (simp; done) | (simp; omega))).trans (by go_cell : _ = some (.int .i64 a3))
              have an3_162 := (k1 (wq161.heap.size) 3 (by first | omega | (simp; done) | (simp; omega))).trans (by go_cell : _ = some (.int .i64 a4))
              have l162_0 : w.heap.size < wq162.heap.size := by omega
              have l162_1 : w.heap.size + 1 < wq162.heap.size := by omega
              have l162_2 : b9 < wq162.heap.size := by omega
              have l162_3 : b10 < wq162.heap.size := by omega
              have l162_4 : SB < wq162.heap.size := by omega
              have l162_5 : wq161.heap.size < wq162.heap.size := by omega
              clear hb hs162 k1 k2 xc0_161 xc1_161 xc2_161 xc3_161 yc0_161 yc1_161 yc2_161 yc3_161 pc0_161 pc1_161 pc2_161 pc3_161 qc0_161 qc1_161 qc2_161 qc3_161 fc0_161 fc1_161 fc2_161 fc3_161 l161_0 l161_1 l161_2 l161_3 l161_4 DS161
              by_cases her : er = 0
              · have hr1 : (er == 0) = true := beq_iff_eq.2 her
                have hr2 : (er != 0) = false := by simp [her]
                clear her
                have DL := DS162
                go_wp2_with fail
                go_roundw
                case rel =>
                  refine ⟨3, by first | rfl | go_num, by omega, Lib.hid (by go_grown), ?_, ?_, ?_, ?_, ?_, Lib.hid ?_⟩
                  · first | omega | (simp; done) | (simp; omega)
                  · first | omega | (simp; done) | (simp; omega)
                  · first | omega | (simp; done) | (simp; omega)
                  · first | omega | (simp; done) | (simp; omega)
                  · first | omega | (simp; done) | (simp; omega)
                  · refine ⟨?_, ?_, ?_, ?_, ?_, ?_, ?_, ?_, ?_, ?_, ?_, ?_, ?_, ?_, ?_, ?_, ?_, ?_, ?_, ?_⟩ <;> first | assumption | go_cell
                case measure => first | (simp [intOf]; done) | (simp [intOf]; omega)
              · have hr1 : (er == 0) = false := beq_eq_false_iff_ne.2 her
                have hr2 : (er != 0) = true := bne_iff_ne.2 her
                have DL := DS162
                go_wp2_with fail
                go_roundw
                case rel =>
                  refine ⟨3, by first | rfl | go_num, by omega, Lib.hid (by go_grown), ?_, ?_, ?_, ?_, ?_, Lib.hid ?_⟩
                  · first | omega | (simp; done) | (simp; omega)
                  · first | omega | (simp; done) | (simp; omega)
                  · first | omega | (simp; done) | (simp; omega)
                  · first | omega | (simp; done) | (simp; omega)
                  · first | omega | (simp; done) | (simp; omega)
                  · refine ⟨?_, ?_, ?_, ?_, ?_, ?_, ?_, ?_, ?_, ?_, ?_, ?_, ?_, ?_, ?_, ?_, ?_, ?_, ?_, ?_⟩ <;> first | assumption | go_cell
                case measure => first | (simp [intOf]; done) | (simp [intOf]; omega)
          · rcases grow_of (F := divR) HB1.out HB2.out (fun r hr => divR_mono ((inside_iff _ _).1 HB1.out).2.2 ((inside_iff _ _).1 HB2.out).2.2 ((inside_iff _ _).1 HB1.out).1 ((inside_iff _ _).1 HB2.out).1 hr) (fun _ _ _ h => divR_ok h) ne0_divR with ⟨a1, a2, a3, a4, b1, b2, b3, b4, ha, hb, hin⟩ | ⟨a1, a2, a3, a4, b1, b2, b3, b4, er, ek, ha, hb, hne⟩
            · have HA := Lib.hid ha
              have HB := Lib.hid hb
              have HIN := Lib.hid hin
              clear ha hb hin
              go_wp2_with fail
              refine (eDiv_any a b c d s t u v _).mono ?_
              rw [HA.out]
              rintro e wq171 ⟨he, hb⟩
              obtain rfl : e = .returned (.tuple #[.agg #[.int .i64 a1, .int .i64 a2, .int .i64 a3, .int .i64 a4], .int .i64 0]) := he
              have hs171 := hb.size
              (try simp at hs171)
              have DS171 : Below w.heap.size w wq171 := Below.trans (by go_grown) (hb.mono (by have := DB.size; first | omega | (simp; done) | (simp; omega)))
              obtain ⟨k1, k2⟩ := bcl hb
              have xc0_171 := (k1 (w.heap.size) 0 (by first | omega | (simp; done) | (simp; omega))).trans (((Below.refl wr.heap.size wr).cell (p := ⟨w.heap.size, 0, none⟩) (by simp only; omega)).trans xc0)
              have xc1_171 := (k1 (w.heap.size) 1 (by first | omega | (simp; done) | (simp; omega))).trans (((Below.refl wr.heap.size wr).cell (p := ⟨w.heap.size, 1, none⟩) (by simp only; omega)).trans xc1)
              have xc2_171 := (k1 (w.heap.size) 2 (by first | omega | (simp; done) | (simp; omega))).trans (((Below.refl wr.heap.size wr).cell (p := ⟨w.heap.size, 2, none⟩) (by simp only; omega)).trans xc2)
              have xc3_171 := (k1 (w.heap.size) 3 (by first | omega | (simp; done) | (simp; omega))).trans (((Below.refl wr.heap.size wr).cell (p := ⟨w.heap.size, 3, none⟩) (by simp only; omega)).trans xc3)
              have yc0_171 := (k1 (w.heap.size + 1) 0 (by first | omega | (simp; done) | (simp; omega))).trans (((Below.refl wr.heap.size wr).cell (p := ⟨w.heap.size + 1, 0, none⟩) (by simp only; omega)).trans yc0)
              have yc1_171 := (k1 (w.heap.size + 1) 1 (by first | omega | (simp; done) | (simp; omega))).trans (((Below.refl wr.heap.size wr).cell (p := ⟨w.heap.size + 1, 1, none⟩) (by simp only; omega)).trans yc1)
              have yc2_171 := (k1 (w.heap.size + 1) 2 (by first | omega | (simp; done) | (simp; omega))).trans (((Below.refl wr.heap.size wr).cell (p := ⟨w.heap.size + 1, 2, none⟩) (by simp only; omega)).trans yc2)
              have yc3_171 := (k1 (w.heap.size + 1) 3 (by first | omega | (simp; done) | (simp; omega))).trans (((Below.refl wr.heap.size wr).cell (p := ⟨w.heap.size + 1, 3, none⟩) (by simp only; omega)).trans yc3)
              have pc0_171 := (k1 (b9) 0 (by first | omega | (simp; done) | (simp; omega))).trans (((Below.refl wr.heap.size wr).cell (p := ⟨b9, 0, none⟩) (by simp only; omega)).trans pc0)
              have pc1_171 := (k1 (b9) 1 (by first | omega | (simp; done) | (simp; omega))).trans (((Below.refl wr.heap.size wr).cell (p := ⟨b9, 1, none⟩) (by simp only; omega)).trans pc1)
              have pc2_171 := (k1 (b9) 2 (by first | omega | (simp; done) | (simp; omega))).trans (((Below.refl wr.heap.size wr).cell (p := ⟨b9, 2, none⟩) (by simp only; omega)).trans pc2)
              have pc3_171 := (k1 (b9) 3 (by first | omega | (simp; done) | (simp; omega))).trans (((Below.refl wr.heap.size wr).cell (p := ⟨b9, 3, none⟩) (by simp only; omega)).trans pc3)
              have qc0_171 := (k1 (b10) 0 (by first | omega | (simp; done) | (simp; omega))).trans (((Below.refl wr.heap.size wr).cell (p := ⟨b10, 0, none⟩) (by simp only; omega)).trans qc0)
              have qc1_171 := (k1 (b10) 1 (by first | omega | (simp; done) | (simp; omega))).trans (((Below.refl wr.heap.size wr).cell (p := ⟨b10, 1, none⟩) (by simp only; omega)).trans qc1)
              have qc2_171 := (k1 (b10) 2 (by first | omega | (simp; done) | (simp; omega))).trans (((Below.refl wr.heap.size wr).cell (p := ⟨b10, 2, none⟩) (by simp only; omega)).trans qc2)
              have qc3_171 := (k1 (b10) 3 (by first | omega | (simp; done) | (simp; omega))).trans (((Below.refl wr.heap.size wr).cell (p := ⟨b10, 3, none⟩) (by simp only; omega)).trans qc3)
              have fc0_171 := (k1 (SB) 0 (by first | omega | (simp; done) | (simp; omega))).trans (((Below.refl wr.heap.size wr).cell (p := ⟨SB, 0, none⟩) (by simp only; omega)).trans fc0)
              have fc1_171 := (k1 (SB) 1 (by first | omega | (simp; done) | (simp; omega))).trans (((Below.refl wr.heap.size wr).cell (p := ⟨SB, 1, none⟩) (by simp only; omega)).trans fc1)
              have fc2_171 := (k1 (SB) 2 (by first | omega | (simp; done) | (simp; omega))).trans (((Below.refl wr.heap.size wr).cell (p := ⟨SB, 2, none⟩) (by simp only; omega)).trans fc2)
              have fc3_171 := (k1 (SB) 3 (by first | omega | (simp; done) | (simp; omega))).trans (((Below.refl wr.heap.size wr).cell (p := ⟨SB, 3, none⟩) (by simp only; omega)).trans fc3)
              have l171_0 : w.heap.size < wq171.heap.size := by omega
              have l171_1 : w.heap.size + 1 < wq171.heap.size := by omega
              have l171_2 : b9 < wq171.heap.size := by omega
              have l171_3 : b10 < wq171.heap.size := by omega
              have l171_4 : SB < wq171.heap.size := by omega
              clear hb hs171 k1 k2 xc0 xc1 xc2 xc3 yc0 yc1 yc2 yc3 pc0 pc1 pc2 pc3 qc0 qc1 qc2 qc3 fc0 fc1 fc2 fc3 t0 t1 t2 t3 t4 DB
              go_wp2_with fail
              refine (eDiv_any p1 p2 p3 p4 q1 q2 q3 q4 _).mono ?_
              rw [HB.out]
              rintro e wq172 ⟨he, hb⟩
              obtain rfl : e = .returned (.tuple #[.agg #[.int .i64 b1, .int .i64 b2, .int .i64 b3, .int .i64 b4], .int .i64 0]) := he
              have hs172 := hb.size
              (try simp at hs172)
              have DS172 : Below w.heap.size w wq172 := Below.trans (by go_grown) (hb.mono (by have := DS171.size; first | omega | (simp; done) | (simp; omega)))
              obtain ⟨k1, k2⟩ := bcl hb
              have xc0_172 := (k1 (w.heap.size) 0 (by first | omega | (simp; done) | (simp; omega))).trans (((bal (Below.refl wq171.heap.size wq171) (Obj.cells #[.int .i64 a1, .int .i64 a2, .int .i64 a3, .int .i64 a4] 25)).cell (p := ⟨w.heap.size, 0, none⟩) (by simp only; omega)).trans xc0_171)
              have xc1_172 := (k1 (w.heap.size) 1 (by first | omega | (simp; done) | (simp; omega))).trans (((bal (Below.refl wq171.heap.size wq171) (Obj.cells #[.int .i64 a1, .int .i64 a2, .int .i64 a3, .int .i64 a4] 25)).cell (p := ⟨w.heap.size, 1, none⟩) (by simp only; omega)).trans xc1_171)
              have xc2_172 := (k1 (w.heap.size) 2 (by first | omega | (simp; done) | (simp; omega))).trans (((bal (Below.refl wq171.heap.size wq171) (Obj.cells #[.int .i64 a1, .int .i64 a2, .int .i64 a3, .int .i64 a4] 25)).cell (p := ⟨w.heap.size, 2, none⟩) (by simp only; omega)).trans xc2_171)
              have xc3_172 := (k1 (w.heap.size) 3 (by first | omega | (simp; done) | (simp; omega))).trans (((bal (Below.refl wq171.heap.size wq171) (Obj.cells #[.int .i64 a1, .int .i64 a2, .int .i64 a3, .int .i64 a4] 25)).cell (p := ⟨w.heap.size, 3, none⟩) (by simp only; omega)).trans xc3_171)
              have yc0_172 := (k1 (w.heap.size + 1) 0 (by first | omega | (simp; done) | (simp; omega))).trans (((bal (Below.refl wq171.heap.size wq171) (Obj.cells #[.int .i64 a1, .int .i64 a2, .int .i64 a3, .int .i64 a4] 25)).cell (p := ⟨w.heap.size + 1, 0, none⟩) (by simp only; omega)).trans yc0_171)
              have yc1_172 := (k1 (w.heap.size + 1) 1 (by first | omega | (simp; done) | (simp; omega))).trans (((bal (Below.refl wq171.heap.size wq171) (Obj.cells #[.int .i64 a1, .int .i64 a2, .int .i64 a3, .int .i64 a4] 25)).cell (p := ⟨w.heap.size + 1, 1, none⟩) (by simp only; omega)).trans yc1_171)
              have yc2_172 := (k1 (w.heap.size + 1) 2 (by first | omega | (simp; done) | (simp; omega))).trans (((bal (Below.refl wq171.heap.size wq171) (Obj.cells #[.int .i64 a1, .int .i64 a2, .int .i64 a3, .int .i64 a4] 25)).cell (p := ⟨w.heap.size + 1, 2, none⟩) (by simp only; omega)).trans yc2_171)
              have yc3_172 := (k1 (w.heap.size + 1) 3 (by first | omega | (simp; done) | (simp; omega))).trans (((bal (Below.refl wq171.heap.size wq171) (Obj.cells #[.int .i64 a1, .int .i64 a2, .int .i64 a3, .int .i64 a4] 25)).cell (p := ⟨w.heap.size + 1, 3, none⟩) (by simp only; omega)).trans yc3_171)
              have pc0_172 := (k1 (b9) 0 (by first | omega | (simp; done) | (simp; omega))).trans (((bal (Below.refl wq171.heap.size wq171) (Obj.cells #[.int .i64 a1, .int .i64 a2, .int .i64 a3, .int .i64 a4] 25)).cell (p := ⟨b9, 0, none⟩) (by simp only; omega)).trans pc0_171)
              have pc1_172 := (k1 (b9) 1 (by first | omega | (simp; done) | (simp; omega))).trans (((bal (Below.refl wq171.heap.size wq171) (Obj.cells #[.int .i64 a1, .int .i64 a2, .int .i64 a3, .int .i64 a4] 25)).cell (p := ⟨b9, 1, none⟩) (by simp only; omega)).trans pc1_171)
              have pc2_172 := (k1 (b9) 2 (by first | omega | (simp; done) | (simp; omega))).trans (((bal (Below.refl wq171.heap.size wq171) (Obj.cells #[.int .i64 a1, .int .i64 a2, .int .i64 a3, .int .i64 a4] 25)).cell (p := ⟨b9, 2, none⟩) (by simp only; omega)).trans pc2_171)
              have pc3_172 := (k1 (b9) 3 (by first | omega | (simp; done) | (simp; omega))).trans (((bal (Below.refl wq171.heap.size wq171) (Obj.cells #[.int .i64 a1, .int .i64 a2, .int .i64 a3, .int .i64 a4] 25)).cell (p := ⟨b9, 3, none⟩) (by simp only; omega)).trans pc3_171)
              have qc0_172 := (k1 (b10) 0 (by first | omega | (simp; done) | (simp; omega))).trans (((bal (Below.refl wq171.heap.size wq171) (Obj.cells #[.int .i64 a1, .int .i64 a2, .int .i64 a3, .int .i64 a4] 25)).cell (p := ⟨b10, 0, none⟩) (by simp only; omega)).trans qc0_171)
              have qc1_172 := (k1 (b10) 1 (by first | omega | (simp; done) | (simp; omega))).trans (((bal (Below.refl wq171.heap.size wq171) (Obj.cells #[.int .i64 a1, .int .i64 a2, .int .i64 a3, .int .i64 a4] 25)).cell (p := ⟨b10, 1, none⟩) (by simp only; omega)).trans qc1_171)
              have qc2_172 := (k1 (b10) 2 (by first | omega | (simp; done) | (simp; omega))).trans (((bal (Below.refl wq171.heap.size wq171) (Obj.cells #[.int .i64 a1, .int .i64 a2, .int .i64 a3, .int .i64 a4] 25)).cell (p := ⟨b10, 2, none⟩) (by simp only; omega)).trans qc2_171)
              have qc3_172 := (k1 (b10) 3 (by first | omega | (simp; done) | (simp; omega))).trans (((bal (Below.refl wq171.heap.size wq171) (Obj.cells #[.int .i64 a1, .int .i64 a2, .int .i64 a3, .int .i64 a4] 25)).cell (p := ⟨b10, 3, none⟩) (by simp only; omega)).trans qc3_171)
              have fc0_172 := (k1 (SB) 0 (by first | omega | (simp; done) | (simp; omega))).trans (((bal (Below.refl wq171.heap.size wq171) (Obj.cells #[.int .i64 a1, .int .i64 a2, .int .i64 a3, .int .i64 a4] 25)).cell (p := ⟨SB, 0, none⟩) (by simp only; omega)).trans fc0_171)
              have fc1_172 := (k1 (SB) 1 (by first | omega | (simp; done) | (simp; omega))).trans (((bal (Below.refl wq171.heap.size wq171) (Obj.cells #[.int .i64 a1, .int .i64 a2, .int .i64 a3, .int .i64 a4] 25)).cell (p := ⟨SB, 1, none⟩) (by simp only; omega)).trans fc1_171)
              have fc2_172 := (k1 (SB) 2 (by first | omega | (simp; done) | (simp; omega))).trans (((bal (Below.refl wq171.heap.size wq171) (Obj.cells #[.int .i64 a1, .int .i64 a2, .int .i64 a3, .int .i64 a4] 25)).cell (p := ⟨SB, 2, none⟩) (by simp only; omega)).trans fc2_171)
              have fc3_172 := (k1 (SB) 3 (by first | omega | (simp; done) | (simp; omega))).trans (((bal (Below.refl wq171.heap.size wq171) (Obj.cells #[.int .i64 a1, .int .i64 a2, .int .i64 a3, .int .i64 a4] 25)).cell (p := ⟨SB, 3, none⟩) (by simp only; omega)).trans fc3_171)
              have an0_172 := (k1 (wq171.heap.size) 0 (by first | omega | (simp; done) | (simp; omega))).trans (by go_cell : _ = some (.int .i64 a1))
              have an1_172 := (k1 (wq171.heap.size) 1 (by first | omega | (simp; done) | (simp; omega))).trans (by go_cell : _ = some (.int .i64 a2))
              have an2_172 := (k1 (wq171.heap.size) 2 (by first | omega | (simp; done) | (simp; omega))).trans (by go_cell : _ = some (.int .i64 a3))
              have an3_172 := (k1 (wq171.heap.size) 3 (by first | omega | (simp; done) | (simp; omega))).trans (by go_cell : _ = some (.int .i64 a4))
              have l172_0 : w.heap.size < wq172.heap.size := by omega
              have l172_1 : w.heap.size + 1 < wq172.heap.size := by omega
              have l172_2 : b9 < wq172.heap.size := by omega
              have l172_3 : b10 < wq172.heap.size := by omega
              have l172_4 : SB < wq172.heap.size := by omega
              have l172_5 : wq171.heap.size < wq172.heap.size := by omega
              clear hb hs172 k1 k2 xc0_171 xc1_171 xc2_171 xc3_171 yc0_171 yc1_171 yc2_171 yc3_171 pc0_171 pc1_171 pc2_171 pc3_171 qc0_171 qc1_171 qc2_171 qc3_171 fc0_171 fc1_171 fc2_171 fc3_171 l171_0 l171_1 l171_2 l171_3 l171_4 DS171
              go_wp2_with fail
              refine (inL_any a1 a2 a3 a4 b1 b2 b3 b4 _).mono ?_
              rw [HIN.out]
              rintro e wq173 ⟨he, hb⟩
              obtain rfl : e = .returned (.bool true) := he
              have hs173 := hb.size
              (try simp at hs173)
              have DS173 : Below w.heap.size w wq173 := Below.trans (by go_grown) (hb.mono (by have := DS172.size; first | omega | (simp; done) | (simp; omega)))
              obtain ⟨k1, k2⟩ := bcl hb
              have xc0_173 := (k1 (w.heap.size) 0 (by first | omega | (simp; done) | (simp; omega))).trans (((bal (Below.refl wq172.heap.size wq172) (Obj.cells #[.int .i64 b1, .int .i64 b2, .int .i64 b3, .int .i64 b4] 25)).cell (p := ⟨w.heap.size, 0, none⟩) (by simp only; omega)).trans xc0_172)
              have xc1_173 := (k1 (w.heap.size) 1 (by first | omega | (simp; done) | (simp; omega))).trans (((bal (Below.refl wq172.heap.size wq172) (Obj.cells #[.int .i64 b1, .int .i64 b2, .int .i64 b3, .int .i64 b4] 25)).cell (p := ⟨w.heap.size, 1, none⟩) (by simp only; omega)).trans xc1_172)
              have xc2_173 := (k1 (w.heap.size) 2 (by first | omega | (simp; done) | (simp; omega))).trans (((bal (Below.refl wq172.heap.size wq172) (Obj.cells #[.int .i64 b1, .int .i64 b2, .int .i64 b3, .int .i64 b4] 25)).cell (p := ⟨w.heap.size, 2, none⟩) (by simp only; omega)).trans xc2_172)
              have xc3_173 := (k1 (w.heap.size) 3 (by first | omega | (simp; done) | (simp; omega))).trans (((bal (Below.refl wq172.heap.size wq172) (Obj.cells #[.int .i64 b1, .int .i64 b2, .int .i64 b3, .int .i64 b4] 25)).cell (p := ⟨w.heap.size, 3, none⟩) (by simp only; omega)).trans xc3_172)
              have yc0_173 := (k1 (w.heap.size + 1) 0 (by first | omega | (simp; done) | (simp; omega))).trans (((bal (Below.refl wq172.heap.size wq172) (Obj.cells #[.int .i64 b1, .int .i64 b2, .int .i64 b3, .int .i64 b4] 25)).cell (p := ⟨w.heap.size + 1, 0, none⟩) (by simp only; omega)).trans yc0_172)
              have yc1_173 := (k1 (w.heap.size + 1) 1 (by first | omega | (simp; done) | (simp; omega))).trans (((bal (Below.refl wq172.heap.size wq172) (Obj.cells #[.int .i64 b1, .int .i64 b2, .int .i64 b3, .int .i64 b4] 25)).cell (p := ⟨w.heap.size + 1, 1, none⟩) (by simp only; omega)).trans yc1_172)
              have yc2_173 := (k1 (w.heap.size + 1) 2 (by first | omega | (simp; done) | (simp; omega))).trans (((bal (Below.refl wq172.heap.size wq172) (Obj.cells #[.int .i64 b1, .int .i64 b2, .int .i64 b3, .int .i64 b4] 25)).cell (p := ⟨w.heap.size + 1, 2, none⟩) (by simp only; omega)).trans yc2_172)
              have yc3_173 := (k1 (w.heap.size + 1) 3 (by first | omega | (simp; done) | (simp; omega))).trans (((bal (Below.refl wq172.heap.size wq172) (Obj.cells #[.int .i64 b1, .int .i64 b2, .int .i64 b3, .int .i64 b4] 25)).cell (p := ⟨w.heap.size + 1, 3, none⟩) (by simp only; omega)).trans yc3_172)
              have pc0_173 := (k1 (b9) 0 (by first | omega | (simp; done) | (simp; omega))).trans (((bal (Below.refl wq172.heap.size wq172) (Obj.cells #[.int .i64 b1, .int .i64 b2, .int .i64 b3, .int .i64 b4] 25)).cell (p := ⟨b9, 0, none⟩) (by simp only; omega)).trans pc0_172)
              have pc1_173 := (k1 (b9) 1 (by first | omega | (simp; done) | (simp; omega))).trans (((bal (Below.refl wq172.heap.size wq172) (Obj.cells #[.int .i64 b1, .int .i64 b2, .int .i64 b3, .int .i64 b4] 25)).cell (p := ⟨b9, 1, none⟩) (by simp only; omega)).trans pc1_172)
              have pc2_173 := (k1 (b9) 2 (by first | omega | (simp; done) | (simp; omega))).trans (((bal (Below.refl wq172.heap.size wq172) (Obj.cells #[.int .i64 b1, .int .i64 b2, .int .i64 b3, .int .i64 b4] 25)).cell (p := ⟨b9, 2, none⟩) (by simp only; omega)).trans pc2_172)
              have pc3_173 := (k1 (b9) 3 (by first | omega | (simp; done) | (simp; omega))).trans (((bal (Below.refl wq172.heap.size wq172) (Obj.cells #[.int .i64 b1, .int .i64 b2, .int .i64 b3, .int .i64 b4] 25)).cell (p := ⟨b9, 3, none⟩) (by simp only; omega)).trans pc3_172)
              have qc0_173 := (k1 (b10) 0 (by first | omega | (simp; done) | (simp; omega))).trans (((bal (Below.refl wq172.heap.size wq172) (Obj.cells #[.int .i64 b1, .int .i64 b2, .int .i64 b3, .int .i64 b4] 25)).cell (p := ⟨b10, 0, none⟩) (by simp only; omega)).trans qc0_172)
              have qc1_173 := (k1 (b10) 1 (by first | omega | (simp; done) | (simp; omega))).trans (((bal (Below.refl wq172.heap.size wq172) (Obj.cells #[.int .i64 b1, .int .i64 b2, .int .i64 b3, .int .i64 b4] 25)).cell (p := ⟨b10, 1, none⟩) (by simp only; omega)).trans qc1_172)
              have qc2_173 := (k1 (b10) 2 (by first | omega | (simp; done) | (simp; omega))).trans (((bal (Below.refl wq172.heap.size wq172) (Obj.cells #[.int .i64 b1, .int .i64 b2, .int .i64 b3, .int .i64 b4] 25)).cell (p := ⟨b10, 2, none⟩) (by simp only; omega)).trans qc2_172)
              have qc3_173 := (k1 (b10) 3 (by first | omega | (simp; done) | (simp; omega))).trans (((bal (Below.refl wq172.heap.size wq172) (Obj.cells #[.int .i64 b1, .int .i64 b2, .int .i64 b3, .int .i64 b4] 25)).cell (p := ⟨b10, 3, none⟩) (by simp only; omega)).trans qc3_172)
              have fc0_173 := (k1 (SB) 0 (by first | omega | (simp; done) | (simp; omega))).trans (((bal (Below.refl wq172.heap.size wq172) (Obj.cells #[.int .i64 b1, .int .i64 b2, .int .i64 b3, .int .i64 b4] 25)).cell (p := ⟨SB, 0, none⟩) (by simp only; omega)).trans fc0_172)
              have fc1_173 := (k1 (SB) 1 (by first | omega | (simp; done) | (simp; omega))).trans (((bal (Below.refl wq172.heap.size wq172) (Obj.cells #[.int .i64 b1, .int .i64 b2, .int .i64 b3, .int .i64 b4] 25)).cell (p := ⟨SB, 1, none⟩) (by simp only; omega)).trans fc1_172)
              have fc2_173 := (k1 (SB) 2 (by first | omega | (simp; done) | (simp; omega))).trans (((bal (Below.refl wq172.heap.size wq172) (Obj.cells #[.int .i64 b1, .int .i64 b2, .int .i64 b3, .int .i64 b4] 25)).cell (p := ⟨SB, 2, none⟩) (by simp only; omega)).trans fc2_172)
              have fc3_173 := (k1 (SB) 3 (by first | omega | (simp; done) | (simp; omega))).trans (((bal (Below.refl wq172.heap.size wq172) (Obj.cells #[.int .i64 b1, .int .i64 b2, .int .i64 b3, .int .i64 b4] 25)).cell (p := ⟨SB, 3, none⟩) (by simp only; omega)).trans fc3_172)
              have l173_0 : w.heap.size < wq173.heap.size := by omega
              have l173_1 : w.heap.size + 1 < wq173.heap.size := by omega
              have l173_2 : b9 < wq173.heap.size := by omega
              have l173_3 : b10 < wq173.heap.size := by omega
              have l173_4 : SB < wq173.heap.size := by omega
              clear hb hs173 k1 k2 xc0_172 xc1_172 xc2_172 xc3_172 yc0_172 yc1_172 yc2_172 yc3_172 pc0_172 pc1_172 pc2_172 pc3_172 qc0_172 qc1_172 qc2_172 qc3_172 fc0_172 fc1_172 fc2_172 fc3_172 an0_172 an1_172 an2_172 an3_172 l172_0 l172_1 l172_2 l172_3 l172_4 l172_5 DS172
              have DL := DS173
              go_wp2_with fail
              go_roundw
              case rel =>
                refine ⟨4, by first | rfl | go_num, by omega, Lib.hid (by go_grown), ?_, ?_, ?_, ?_, ?_, Lib.hid ?_⟩
                · first | omega | (simp; done) | (simp; omega)
                · first | omega | (simp; done) | (simp; omega)
                · first | omega | (simp; done) | (simp; omega)
                · first | omega | (simp; done) | (simp; omega)
                · first | omega | (simp; done) | (simp; omega)
                · refine ⟨?_, ?_, ?_, ?_, ?_, ?_, ?_, ?_, ?_, ?_, ?_, ?_, ?_, ?_, ?_, ?_, ?_, ?_, ?_, ?_⟩ <;> first | assumption | go_cell
              case measure => first | (simp [intOf]; done) | (simp [intOf]; omega)
            · have HA := Lib.hid ha
              have HB := Lib.hid hb
              have hk1 : (ek == 0) = false := beq_eq_false_iff_ne.2 hne
              have hk2 : (ek != 0) = true := bne_iff_ne.2 hne
              clear ha hb
              go_wp2_with fail
              refine (eDiv_any a b c d s t u v _).mono ?_
              rw [HA.out]
              rintro e wq181 ⟨he, hb⟩
              obtain rfl : e = .returned (.tuple #[.agg #[.int .i64 a1, .int .i64 a2, .int .i64 a3, .int .i64 a4], .int .i64 er]) := he
              have hs181 := hb.size
              (try simp at hs181)
              have DS181 : Below w.heap.size w wq181 := Below.trans (by go_grown) (hb.mono (by have := DB.size; first | omega | (simp; done) | (simp; omega)))
              obtain ⟨k1, k2⟩ := bcl hb
              have xc0_181 := (k1 (w.heap.size) 0 (by first | omega | (simp; done) | (simp; omega))).trans (((Below.refl wr.heap.size wr).cell (p := ⟨w.heap.size, 0, none⟩) (by simp only; omega)).trans xc0)
              have xc1_181 := (k1 (w.heap.size) 1 (by first | omega | (simp; done) | (simp; omega))).trans (((Below.refl wr.heap.size wr).cell (p := ⟨w.heap.size, 1, none⟩) (by simp only; omega)).trans xc1)
              have xc2_181 := (k1 (w.heap.size) 2 (by first | omega | (simp; done) | (simp; omega))).trans (((Below.refl wr.heap.size wr).cell (p := ⟨w.heap.size, 2, none⟩) (by simp only; omega)).trans xc2)
              have xc3_181 := (k1 (w.heap.size) 3 (by first | omega | (simp; done) | (simp; omega))).trans (((Below.refl wr.heap.size wr).cell (p := ⟨w.heap.size, 3, none⟩) (by simp only; omega)).trans xc3)
              have yc0_181 := (k1 (w.heap.size + 1) 0 (by first | omega | (simp; done) | (simp; omega))).trans (((Below.refl wr.heap.size wr).cell (p := ⟨w.heap.size + 1, 0, none⟩) (by simp only; omega)).trans yc0)
              have yc1_181 := (k1 (w.heap.size + 1) 1 (by first | omega | (simp; done) | (simp; omega))).trans (((Below.refl wr.heap.size wr).cell (p := ⟨w.heap.size + 1, 1, none⟩) (by simp only; omega)).trans yc1)
              have yc2_181 := (k1 (w.heap.size + 1) 2 (by first | omega | (simp; done) | (simp; omega))).trans (((Below.refl wr.heap.size wr).cell (p := ⟨w.heap.size + 1, 2, none⟩) (by simp only; omega)).trans yc2)
              have yc3_181 := (k1 (w.heap.size + 1) 3 (by first | omega | (simp; done) | (simp; omega))).trans (((Below.refl wr.heap.size wr).cell (p := ⟨w.heap.size + 1, 3, none⟩) (by simp only; omega)).trans yc3)
              have pc0_181 := (k1 (b9) 0 (by first | omega | (simp; done) | (simp; omega))).trans (((Below.refl wr.heap.size wr).cell (p := ⟨b9, 0, none⟩) (by simp only; omega)).trans pc0)
              have pc1_181 := (k1 (b9) 1 (by first | omega | (simp; done) | (simp; omega))).trans (((Below.refl wr.heap.size wr).cell (p := ⟨b9, 1, none⟩) (by simp only; omega)).trans pc1)
              have pc2_181 := (k1 (b9) 2 (by first | omega | (simp; done) | (simp; omega))).trans (((Below.refl wr.heap.size wr).cell (p := ⟨b9, 2, none⟩) (by simp only; omega)).trans pc2)
              have pc3_181 := (k1 (b9) 3 (by first | omega | (simp; done) | (simp; omega))).trans (((Below.refl wr.heap.size wr).cell (p := ⟨b9, 3, none⟩) (by simp only; omega)).trans pc3)
              have qc0_181 := (k1 (b10) 0 (by first | omega | (simp; done) | (simp; omega))).trans (((Below.refl wr.heap.size wr).cell (p := ⟨b10, 0, none⟩) (by simp only; omega)).trans qc0)
              have qc1_181 := (k1 (b10) 1 (by first | omega | (simp; done) | (simp; omega))).trans (((Below.refl wr.heap.size wr).cell (p := ⟨b10, 1, none⟩) (by simp only; omega)).trans qc1)
              have qc2_181 := (k1 (b10) 2 (by first | omega | (simp; done) | (simp; omega))).trans (((Below.refl wr.heap.size wr).cell (p := ⟨b10, 2, none⟩) (by simp only; omega)).trans qc2)
              have qc3_181 := (k1 (b10) 3 (by first | omega | (simp; done) | (simp; omega))).trans (((Below.refl wr.heap.size wr).cell (p := ⟨b10, 3, none⟩) (by simp only; omega)).trans qc3)
              have fc0_181 := (k1 (SB) 0 (by first | omega | (simp; done) | (simp; omega))).trans (((Below.refl wr.heap.size wr).cell (p := ⟨SB, 0, none⟩) (by simp only; omega)).trans fc0)
              have fc1_181 := (k1 (SB) 1 (by first | omega | (simp; done) | (simp; omega))).trans (((Below.refl wr.heap.size wr).cell (p := ⟨SB, 1, none⟩) (by simp only; omega)).trans fc1)
              have fc2_181 := (k1 (SB) 2 (by first | omega | (simp; done) | (simp; omega))).trans (((Below.refl wr.heap.size wr).cell (p := ⟨SB, 2, none⟩) (by simp only; omega)).trans fc2)
              have fc3_181 := (k1 (SB) 3 (by first | omega | (simp; done) | (simp; omega))).trans (((Below.refl wr.heap.size wr).cell (p := ⟨SB, 3, none⟩) (by simp only; omega)).trans fc3)
              have l181_0 : w.heap.size < wq181.heap.size := by omega
              have l181_1 : w.heap.size + 1 < wq181.heap.size := by omega
              have l181_2 : b9 < wq181.heap.size := by omega
              have l181_3 : b10 < wq181.heap.size := by omega
              have l181_4 : SB < wq181.heap.size := by omega
              clear hb hs181 k1 k2 xc0 xc1 xc2 xc3 yc0 yc1 yc2 yc3 pc0 pc1 pc2 pc3 qc0 qc1 qc2 qc3 fc0 fc1 fc2 fc3 t0 t1 t2 t3 t4 DB
              go_wp2_with fail
              refine (eDiv_any p1 p2 p3 p4 q1 q2 q3 q4 _).mono ?_
              rw [HB.out]
              rintro e wq182 ⟨he, hb⟩
              obtain rfl : e = .returned (.tuple #[.agg #[.int .i64 b1, .int .i64 b2, .int .i64 b3, .int .i64 b4], .int .i64 ek]) := he
              have hs182 := hb.size
              (try simp at hs182)
              have DS182 : Below w.heap.size w wq182 := Below.trans (by go_grown) (hb.mono (by have := DS181.size; first | omega | (simp; done) | (simp; omega)))
              obtain ⟨k1, k2⟩ := bcl hb
              have xc0_182 := (k1 (w.heap.size) 0 (by first | omega | (simp; done) | (simp; omega))).trans (((bal (Below.refl wq181.heap.size wq181) (Obj.cells #[.int .i64 a1, .int .i64 a2, .int .i64 a3, .int .i64 a4] 25)).cell (p := ⟨w.heap.size, 0, none⟩) (by simp only; omega)).trans xc0_181)
              have xc1_182 := (k1 (w.heap.size) 1 (by first | omega | (simp; done) | (simp; omega))).trans (((bal (Below.refl wq181.heap.size wq181) (Obj.cells #[.int .i64 a1, .int .i64 a2, .int .i64 a3, .int .i64 a4] 25)).cell (p := ⟨w.heap.size, 1, none⟩) (by simp only; omega)).trans xc1_181)
              have xc2_182 := (k1 (w.heap.size) 2 (by first | omega | (simp; done) | (simp; omega))).trans (((bal (Below.refl wq181.heap.size wq181) (Obj.cells #[.int .i64 a1, .int .i64 a2, .int .i64 a3, .int .i64 a4] 25)).cell (p := ⟨w.heap.size, 2, none⟩) (by simp only; omega)).trans xc2_181)
              have xc3_182 := (k1 (w.heap.size) 3 (by first | omega | (simp; done) | (simp; omega))).trans (((bal (Below.refl wq181.heap.size wq181) (Obj.cells #[.int .i64 a1, .int .i64 a2, .int .i64 a3, .int .i64 a4] 25)).cell (p := ⟨w.heap.size, 3, none⟩) (by simp only; omega)).trans xc3_181)
              have yc0_182 := (k1 (w.heap.size + 1) 0 (by first | omega | (simp; done) | (simp; omega))).trans (((bal (Below.refl wq181.heap.size wq181) (Obj.cells #[.int .i64 a1, .int .i64 a2, .int .i64 a3, .int .i64 a4] 25)).cell (p := ⟨w.heap.size + 1, 0, none⟩) (by simp only; omega)).trans yc0_181)
              have yc1_182 := (k1 (w.heap.size + 1) 1 (by first | omega | (simp; done) | (simp; omega))).trans (((bal (Below.refl wq181.heap.size wq181) (Obj.cells #[.int .i64 a1, .int .i64 a2, .int .i64 a3, .int .i64 a4] 25)).cell (p := ⟨w.heap.size + 1, 1, none⟩) (by simp only; omega)).trans yc1_181)
              have yc2_182 := (k1 (w.heap.size + 1) 2 (by first | omega | (simp; done) | (simp; omega))).trans (((bal (Below.refl wq181.heap.size wq181) (Obj.cells #[.int .i64 a1, .int .i64 a2, .int .i64 a3, .int .i64 a4] 25)).cell (p := ⟨w.heap.size + 1, 2, none⟩) (by simp only; omega)).trans yc2_181)
              have yc3_182 := (k1 (w.heap.size + 1) 3 (by first | omega | (simp; done) | (simp; omega))).trans (((bal (Below.refl wq181.heap.size wq181) (Obj.cells #[.int .i64 a1, .int .i64 a2, .int .i64 a3, .int .i64 a4] 25)).cell (p := ⟨w.heap.size + 1, 3, none⟩) (by simp only; omega)).trans yc3_181)
              have pc0_182 := (k1 (b9) 0 (by first | omega | (simp; done) | (simp; omega))).trans (((bal (Below.refl wq181.heap.size wq181) (Obj.cells #[.int .i64 a1, .int .i64 a2, .int .i64 a3, .int .i64 a4] 25)).cell (p := ⟨b9, 0, none⟩) (by simp only; omega)).trans pc0_181)
              have pc1_182 := (k1 (b9) 1 (by first | omega | (simp; done) | (simp; omega))).trans (((bal (Below.refl wq181.heap.size wq181) (Obj.cells #[.int .i64 a1, .int .i64 a2, .int .i64 a3, .int .i64 a4] 25)).cell (p := ⟨b9, 1, none⟩) (by simp only; omega)).trans pc1_181)
              have pc2_182 := (k1 (b9) 2 (by first | omega | (simp; done) | (simp; omega))).trans (((bal (Below.refl wq181.heap.size wq181) (Obj.cells #[.int .i64 a1, .int .i64 a2, .int .i64 a3, .int .i64 a4] 25)).cell (p := ⟨b9, 2, none⟩) (by simp only; omega)).trans pc2_181)
              have pc3_182 := (k1 (b9) 3 (by first | omega | (simp; done) | (simp; omega))).trans (((bal (Below.refl wq181.heap.size wq181) (Obj.cells #[.int .i64 a1, .int .i64 a2, .int .i64 a3, .int .i64 a4] 25)).cell (p := ⟨b9, 3, none⟩) (by simp only; omega)).trans pc3_181)
              have qc0_182 := (k1 (b10) 0 (by first | omega | (simp; done) | (simp; omega))).trans (((bal (Below.refl wq181.heap.size wq181) (Obj.cells #[.int .i64 a1, .int .i64 a2, .int .i64 a3, .int .i64 a4] 25)).cell (p := ⟨b10, 0, none⟩) (by simp only; omega)).trans qc0_181)
              have qc1_182 := (k1 (b10) 1 (by first | omega | (simp; done) | (simp; omega))).trans (((bal (Below.refl wq181.heap.size wq181) (Obj.cells #[.int .i64 a1, .int .i64 a2, .int .i64 a3, .int .i64 a4] 25)).cell (p := ⟨b10, 1, none⟩) (by simp only; omega)).trans qc1_181)
              have qc2_182 := (k1 (b10) 2 (by first | omega | (simp; done) | (simp; omega))).trans (((bal (Below.refl wq181.heap.size wq181) (Obj.cells #[.int .i64 a1, .int .i64 a2, .int .i64 a3, .int .i64 a4] 25)).cell (p := ⟨b10, 2, none⟩) (by simp only; omega)).trans qc2_181)
              have qc3_182 := (k1 (b10) 3 (by first | omega | (simp; done) | (simp; omega))).trans (((bal (Below.refl wq181.heap.size wq181) (Obj.cells #[.int .i64 a1, .int .i64 a2, .int .i64 a3, .int .i64 a4] 25)).cell (p := ⟨b10, 3, none⟩) (by simp only; omega)).trans qc3_181)
              have fc0_182 := (k1 (SB) 0 (by first | omega | (simp; done) | (simp; omega))).trans (((bal (Below.refl wq181.heap.size wq181) (Obj.cells #[.int .i64 a1, .int .i64 a2, .int .i64 a3, .int .i64 a4] 25)).cell (p := ⟨SB, 0, none⟩) (by simp only; omega)).trans fc0_181)
              have fc1_182 := (k1 (SB) 1 (by first | omega | (simp; done) | (simp; omega))).trans (((bal (Below.refl wq181.heap.size wq181) (Obj.cells #[.int .i64 a1, .int .i64 a2, .int .i64 a3, .int .i64 a4] 25)).cell (p := ⟨SB, 1, none⟩) (by simp only; omega)).trans fc1_181)
              have fc2_182 := (k1 (SB) 2 (by first | omega | (simp; done) | (simp; omega))).trans (((bal (Below.refl wq181.heap.size wq181) (Obj.cells #[.int .i64 a1, .int .i64 a2, .int .i64 a3, .int .i64 a4] 25)).cell (p := ⟨SB, 2, none⟩) (by simp only; omega)).trans fc2_181)
              have fc3_182 := (k1 (SB) 3 (by first | omega | (simp; done) | (simp; omega))).trans (((bal (Below.refl wq181.heap.size wq181) (Obj.cells #[.int .i64 a1, .int .i64 a2, .int .i64 a3, .int .i64 a4] 25)).cell (p := ⟨SB, 3, none⟩) (by simp only; omega)).trans fc3_181)
              have an0_182 := (k1 (wq181.heap.size) 0 (by first | omega | (simp; done) | (simp; omega))).trans (by go_cell : _ = some (.int .i64 a1))
              have an1_182 := (k1 (wq181.heap.size) 1 (by first | omega | (simp; done) | (simp; omega))).trans (by go_cell : _ = some (.int .i64 a2))
              have an2_182 := (k1 (wq181.heap.size) 2 (by first | omega | (simp; done) | (simp; omega))).trans (by go_cell : _ = some (.int .i64 a3))
              have an3_182 := (k1 (wq181.heap.size) 3 (by first | omega | (simp; done) | (simp; omega))).trans (by go_cell : _ = some (.int .i64 a4))
              have l182_0 : w.heap.size < wq182.heap.size := by omega
              have l182_1 : w.heap.size + 1 < wq182.heap.size := by omega
              have l182_2 : b9 < wq182.heap.size := by omega
              have l182_3 : b10 < wq182.heap.size := by omega
              have l182_4 : SB < wq182.heap.size := by omega
              have l182_5 : wq181.heap.size < wq182.heap.size := by omega
              clear hb hs182 k1 k2 xc0_181 xc1_181 xc2_181 xc3_181 yc0_181 yc1_181 yc2_181 yc3_181 pc0_181 pc1_181 pc2_181 pc3_181 qc0_181 qc1_181 qc2_181 qc3_181 fc0_181 fc1_181 fc2_181 fc3_181 l181_0 l181_1 l181_2 l181_3 l181_4 DS181
              by_cases her : er = 0
              · have hr1 : (er == 0) = true := beq_iff_eq.2 her
                have hr2 : (er != 0) = false := by simp [her]
                clear her
                have DL := DS182
                go_wp2_with fail
                go_roundw
                case rel =>
                  refine ⟨4, by first | rfl | go_num, by omega, Lib.hid (by go_grown), ?_, ?_, ?_, ?_, ?_, Lib.hid ?_⟩
                  · first | omega | (simp; done) | (simp; omega)
                  · first | omega | (simp; done) | (simp; omega)
                  · first | omega | (simp; done) | (simp; omega)
                  · first | omega | (simp; done) | (simp; omega)
                  · first | omega | (simp; done) | (simp; omega)
                  · refine ⟨?_, ?_, ?_, ?_, ?_, ?_, ?_, ?_, ?_, ?_, ?_, ?_, ?_, ?_, ?_, ?_, ?_, ?_, ?_, ?_⟩ <;> first | assumption | go_cell
                case measure => first | (simp [intOf]; done) | (simp [intOf]; omega)
              · have hr1 : (er == 0) = false := beq_eq_false_iff_ne.2 her
                have hr2 : (er != 0) = true := bne_iff_ne.2 her
                have DL := DS182
                go_wp2_with fail
                go_roundw
                case rel =>
                  refine ⟨4, by first | rfl | go_num, by omega, Lib.hid (by go_grown), ?_, ?_, ?_, ?_, ?_, Lib.hid ?_⟩
                  · first | omega | (simp; done) | (simp; omega)
                  · first | omega | (simp; done) | (simp; omega)
                  · first | omega | (simp; done) | (simp; omega)
                  · first | omega | (simp; done) | (simp; omega)
                  · first | omega | (simp; done) | (simp; omega)
                  · refine ⟨?_, ?_, ?_, ?_, ?_, ?_, ?_, ?_, ?_, ?_, ?_, ?_, ?_, ?_, ?_, ?_, ?_, ?_, ?_, ?_⟩ <;> first | assumption | go_cell
                case measure => first | (simp [intOf]; done) | (simp [intOf]; omega)
end Go.Proofs.Ytilclpldfoifkaa
