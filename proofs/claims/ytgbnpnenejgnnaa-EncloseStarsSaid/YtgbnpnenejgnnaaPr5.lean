import Derived.Test.YtgbnpnenejgnnaaPp5
import Derived.Test.YtgbnpnenejgnnaaMe
import Derived.Deep.DeepCutAuto
import Derived.Deep.CutBlock
namespace Go.Proofs.Ytgbnpnenejgnnaa
open Go.RowKit Encl
set_option maxRecDepth 100000 in
set_option maxHeartbeats 8000000 in
theorem rValidPort_any (a0 b0 c0 d0 a1 b1 c1 d1 a2 b2 c2 d2 a3 b3 c3 d3 : Int) (w : World) :
    Calls Try.prog 97 #[.agg #[.int .i64 a0, .int .i64 b0, .int .i64 c0, .int .i64 d0, .int .i64 a1, .int .i64 b1, .int .i64 c1, .int .i64 d1, .int .i64 a2, .int .i64 b2, .int .i64 c2, .int .i64 d2, .int .i64 a3, .int .i64 b3, .int .i64 c3, .int .i64 d3]] w fun e w' => e = .returned (.bool (okP ⟨⟨a0, b0⟩, ⟨c0, d0⟩⟩ ⟨⟨a1, b1⟩, ⟨c1, d1⟩⟩ ⟨⟨a2, b2⟩, ⟨c2, d2⟩⟩ ⟨⟨a3, b3⟩, ⟨c3, d3⟩⟩)) ∧ Below w.heap.size w w' := by
  obtain ⟨bb, hbb⟩ : ∃ bb, okP ⟨⟨a0, b0⟩, ⟨c0, d0⟩⟩ ⟨⟨a1, b1⟩, ⟨c1, d1⟩⟩ ⟨⟨a2, b2⟩, ⟨c2, d2⟩⟩ ⟨⟨a3, b3⟩, ⟨c3, d3⟩⟩ = bb := ⟨_, rfl⟩
  have HBB := Lib.hid hbb
  rw [hbb]
  clear hbb
  have hi0 : ∀ w : World, (Instr.index 47 (.agg #[.int .i64 a0, .int .i64 b0, .int .i64 c0, .int .i64 d0, .int .i64 a1, .int .i64 b1, .int .i64 c1, .int .i64 d1, .int .i64 a2, .int .i64 b2, .int .i64 c2, .int .i64 d2, .int .i64 a3, .int .i64 b3, .int .i64 c3, .int .i64 d3]) (.int .i64 0)).run Try.prog w = .ok (.agg #[.int .i64 a0, .int .i64 b0, .int .i64 c0, .int .i64 d0, .int .i64 a1, .int .i64 b1, .int .i64 c1, .int .i64 d1]) w := fun _ => rfl
  have hi1 : ∀ w : World, (Instr.index 47 (.agg #[.int .i64 a0, .int .i64 b0, .int .i64 c0, .int .i64 d0, .int .i64 a1, .int .i64 b1, .int .i64 c1, .int .i64 d1, .int .i64 a2, .int .i64 b2, .int .i64 c2, .int .i64 d2, .int .i64 a3, .int .i64 b3, .int .i64 c3, .int .i64 d3]) (.int .i64 1)).run Try.prog w = .ok (.agg #[.int .i64 a2, .int .i64 b2, .int .i64 c2, .int .i64 d2, .int .i64 a3, .int .i64 b3, .int .i64 c3, .int .i64 d3]) w := fun _ => rfl
  have hj00 : ∀ w : World, (Instr.index 46 (.agg #[.int .i64 a0, .int .i64 b0, .int .i64 c0, .int .i64 d0, .int .i64 a1, .int .i64 b1, .int .i64 c1, .int .i64 d1]) (.int .i64 0)).run Try.prog w = .ok (.agg #[.int .i64 a0, .int .i64 b0, .int .i64 c0, .int .i64 d0]) w := fun _ => rfl
  have hj01 : ∀ w : World, (Instr.index 46 (.agg #[.int .i64 a0, .int .i64 b0, .int .i64 c0, .int .i64 d0, .int .i64 a1, .int .i64 b1, .int .i64 c1, .int .i64 d1]) (.int .i64 1)).run Try.prog w = .ok (.agg #[.int .i64 a1, .int .i64 b1, .int .i64 c1, .int .i64 d1]) w := fun _ => rfl
  have hj10 : ∀ w : World, (Instr.index 46 (.agg #[.int .i64 a2, .int .i64 b2, .int .i64 c2, .int .i64 d2, .int .i64 a3, .int .i64 b3, .int .i64 c3, .int .i64 d3]) (.int .i64 0)).run Try.prog w = .ok (.agg #[.int .i64 a2, .int .i64 b2, .int .i64 c2, .int .i64 d2]) w := fun _ => rfl
  have hj11 : ∀ w : World, (Instr.index 46 (.agg #[.int .i64 a2, .int .i64 b2, .int .i64 c2, .int .i64 d2, .int .i64 a3, .int .i64 b3, .int .i64 c3, .int .i64 d3]) (.int .i64 1)).run Try.prog w = .ok (.agg #[.int .i64 a3, .int .i64 b3, .int .i64 c3, .int .i64 d3]) w := fun _ => rfl
  obtain ⟨v0, hv0⟩ : ∃ v, okR ⟨⟨a0, b0⟩, ⟨c0, d0⟩⟩ = v := ⟨_, rfl⟩
  have HV0 := Lib.hid hv0
  obtain ⟨v1, hv1⟩ : ∃ v, okR ⟨⟨a1, b1⟩, ⟨c1, d1⟩⟩ = v := ⟨_, rfl⟩
  have HV1 := Lib.hid hv1
  obtain ⟨v2, hv2⟩ : ∃ v, okR ⟨⟨a2, b2⟩, ⟨c2, d2⟩⟩ = v := ⟨_, rfl⟩
  have HV2 := Lib.hid hv2
  obtain ⟨v3, hv3⟩ : ∃ v, okR ⟨⟨a3, b3⟩, ⟨c3, d3⟩⟩ = v := ⟨_, rfl⟩
  have HV3 := Lib.hid hv3
  have HW : Hid (bb = (v0 && v1 && v2 && v3)) := Lib.hid (by rw [← HBB.out]; unfold okP; rw [hv0, hv1, hv2, hv3])
  clear hv0 hv1 hv2 hv3
  go_enter Try.func97, Try.ntmps97
  go_wp2_with fail
  have hb0 : Below w.heap.size w (w.alloc (Obj.cells #[.int .i64 a0, .int .i64 b0, .int .i64 c0, .int .i64 d0, .int .i64 a1, .int .i64 b1, .int .i64 c1, .int .i64 d1, .int .i64 a2, .int .i64 b2, .int .i64 c2, .int .i64 d2, .int .i64 a3, .int .i64 b3, .int .i64 c3, .int .i64 d3] 49)) := by go_grown
  generalize (w.alloc (Obj.cells #[.int .i64 a0, .int .i64 b0, .int .i64 c0, .int .i64 d0, .int .i64 a1, .int .i64 b1, .int .i64 c1, .int .i64 d1, .int .i64 a2, .int .i64 b2, .int .i64 c2, .int .i64 d2, .int .i64 a3, .int .i64 b3, .int .i64 c3, .int .i64 d3] 49)) = W at *
  go_loopw [9] (fun iv wr => ∃ (z : Int) (k : Nat), iv = .int .i64 z ∧ z = k ∧ k ≤ 2 ∧ Hid ((0 < 2 * k → v0 = true) ∧ (1 < 2 * k → v1 = true) ∧ (2 < 2 * k → v2 = true) ∧ (3 < 2 * k → v3 = true)) ∧ Hid (Below w.heap.size w wr)) (fun iv _ => 2 - (intOf iv).toNat)
  case atStart => exact ⟨0, 0, rfl, by omega, by omega, Lib.hid ⟨by omega, by omega, by omega, by omega⟩, Lib.hid hb0⟩
  case round =>
    obtain ⟨z, k, rfl, hz, hk, HS, HDB⟩ := hrel
    by_cases hlt : k < 2
    case neg =>
      obtain rfl : k = 2 := by omega
      obtain rfl : z = 2 := by omega
      clear hz
      have HT : Hid (bb = true) := Lib.hid (by rw [HW.out]; obtain ⟨a, b, c, d⟩ := HS.out; rw [a (by omega), b (by omega), c (by omega), d (by omega)]; rfl)
      have DB := HDB.out
      go_wp2_with fail
      refine bodyPost_ret (v := .bool true) (by simp [results, Try.results97, go_sem]) rfl ⟨by rw [HT.out], DB⟩
    rcases (show k = 0 ∨ k = 1 by omega) with rfl | rfl
    · have DB := HDB.out
      obtain rfl : z = 0 := by omega
      clear hk hlt hz
      go_wp2_with fail
      have hw2 : Below w.heap.size w (wr.alloc (Obj.cells #[.int .i64 a0, .int .i64 b0, .int .i64 c0, .int .i64 d0, .int .i64 a1, .int .i64 b1, .int .i64 c1, .int .i64 d1] 46)) := DB.alloc DB.size _
      generalize (wr.alloc (Obj.cells #[.int .i64 a0, .int .i64 b0, .int .i64 c0, .int .i64 d0, .int .i64 a1, .int .i64 b1, .int .i64 c1, .int .i64 d1] 46)) = V at *
      go_loopw [13] (fun jv wr2 => ∃ (y : Int) (j : Nat), jv = .int .i64 y ∧ y = j ∧ j ≤ 2 ∧ Hid ((0 < 0 + j → v0 = true) ∧ (1 < 0 + j → v1 = true) ∧ (2 < 0 + j → v2 = true) ∧ (3 < 0 + j → v3 = true)) ∧ Hid (Below w.heap.size w wr2)) (fun jv _ => 2 - (intOf jv).toNat)
      case atStart => exact ⟨0, 0, rfl, by omega, by omega, Lib.hid (by obtain ⟨a, b, c, d⟩ := HS.out; exact ⟨fun h => a (by omega), fun h => b (by omega), fun h => c (by omega), fun h => d (by omega)⟩), Lib.hid hw2⟩
      case round =>
        obtain ⟨y, j, rfl, hy, hj, HS2, HDB2⟩ := hrel
        by_cases hlt2 : j < 2
        case neg =>
          obtain rfl : j = 2 := by omega
          obtain rfl : y = 2 := by omega
          clear hy
          have DB2 := HDB2.out
          go_wp2_with fail
          go_roundw
          case rel => exact ⟨_, 1, by first | rfl | go_num, by omega, by omega, Lib.hid (by obtain ⟨a, b, c, d⟩ := HS2.out; exact ⟨fun h => a (by omega), fun h => b (by omega), fun h => c (by omega), fun h => d (by omega)⟩), HDB2⟩
          case measure => first | (simp [intOf]; done) | (simp [intOf]; omega)
        rcases (show j = 0 ∨ j = 1 by omega) with rfl | rfl
        · have DB2 := HDB2.out
          obtain rfl : y = 0 := by omega
          clear hj hlt2 hy
          go_wp2_with fail
          refine (rValidRect_any a0 b0 c0 d0 _).mono ?_
          rw [HV0.out]
          rintro e w3 ⟨rfl, hb⟩
          have D3 : Below w.heap.size w w3 := Below.trans (DB2.alloc DB2.size _) (hb.mono (by have := DB2.size; simp; omega))
          clear hb
          cases v0 with
          | false =>
            have HF : Hid (bb = false) := Lib.hid (by rw [HW.out]; simp)
            go_wp2_with fail
            refine bodyPost_ret (v := .bool false) (by simp [results, Try.results97, go_sem]) rfl ⟨by rw [HF.out], D3⟩
          | true =>
            go_wp2_with fail
            go_roundw
            case rel => exact ⟨_, 1, by first | rfl | go_num, by omega, by omega, Lib.hid (by obtain ⟨a, b, c, d⟩ := HS2.out; exact ⟨fun _ => by first | rfl | trivial, fun h => b (by omega), fun h => c (by omega), fun h => d (by omega)⟩), Lib.hid D3⟩
            case measure => first | (simp [intOf]; done) | (simp [intOf]; omega)
        · have DB2 := HDB2.out
          obtain rfl : y = 1 := by omega
          clear hj hlt2 hy
          go_wp2_with fail
          refine (rValidRect_any a1 b1 c1 d1 _).mono ?_
          rw [HV1.out]
          rintro e w3 ⟨rfl, hb⟩
          have D3 : Below w.heap.size w w3 := Below.trans (DB2.alloc DB2.size _) (hb.mono (by have := DB2.size; simp; omega))
          clear hb
          cases v1 with
          | false =>
            have HF : Hid (bb = false) := Lib.hid (by rw [HW.out]; simp)
            go_wp2_with fail
            refine bodyPost_ret (v := .bool false) (by simp [results, Try.results97, go_sem]) rfl ⟨by rw [HF.out], D3⟩
          | true =>
            go_wp2_with fail
            go_roundw
            case rel => exact ⟨_, 2, by first | rfl | go_num, by omega, by omega, Lib.hid (by obtain ⟨a, b, c, d⟩ := HS2.out; exact ⟨fun h => a (by omega), fun _ => by first | rfl | trivial, fun h => c (by omega), fun h => d (by omega)⟩), Lib.hid D3⟩
            case measure => first | (simp [intOf]; done) | (simp [intOf]; omega)
    · have DB := HDB.out
      obtain rfl : z = 1 := by omega
      clear hk hlt hz
      go_wp2_with fail
      have hw2 : Below w.heap.size w (wr.alloc (Obj.cells #[.int .i64 a2, .int .i64 b2, .int .i64 c2, .int .i64 d2, .int .i64 a3, .int .i64 b3, .int .i64 c3, .int .i64 d3] 46)) := DB.alloc DB.size _
      generalize (wr.alloc (Obj.cells #[.int .i64 a2, .int .i64 b2, .int .i64 c2, .int .i64 d2, .int .i64 a3, .int .i64 b3, .int .i64 c3, .int .i64 d3] 46)) = V at *
      go_loopw [13] (fun jv wr2 => ∃ (y : Int) (j : Nat), jv = .int .i64 y ∧ y = j ∧ j ≤ 2 ∧ Hid ((0 < 2 + j → v0 = true) ∧ (1 < 2 + j → v1 = true) ∧ (2 < 2 + j → v2 = true) ∧ (3 < 2 + j → v3 = true)) ∧ Hid (Below w.heap.size w wr2)) (fun jv _ => 2 - (intOf jv).toNat)
      case atStart => exact ⟨0, 0, rfl, by omega, by omega, Lib.hid (by obtain ⟨a, b, c, d⟩ := HS.out; exact ⟨fun h => a (by omega), fun h => b (by omega), fun h => c (by omega), fun h => d (by omega)⟩), Lib.hid hw2⟩
      case round =>
        obtain ⟨y, j, rfl, hy, hj, HS2, HDB2⟩ := hrel
        by_cases hlt2 : j < 2
        case neg =>
          obtain rfl : j = 2 := by omega
          obtain rfl : y = 2 := by omega
          clear hy
          have DB2 := HDB2.out
          go_wp2_with fail
          go_roundw
          case rel => exact ⟨_, 2, by first | rfl | go_num, by omega, by omega, Lib.hid (by obtain ⟨a, b, c, d⟩ := HS2.out; exact ⟨fun h => a (by omega), fun h => b (by omega), fun h => c (by omega), fun h => d (by omega)⟩), HDB2⟩
          case measure => first | (simp [intOf]; done) | (simp [intOf]; omega)
        rcases (show j = 0 ∨ j = 1 by omega) with rfl | rfl
        · have DB2 := HDB2.out
          obtain rfl : y = 0 := by omega
          clear hj hlt2 hy
          go_wp2_with fail
          refine (rValidRect_any a2 b2 c2 d2 _).mono ?_
          rw [HV2.out]
          rintro e w3 ⟨rfl, hb⟩
          have D3 : Below w.heap.size w w3 := Below.trans (DB2.alloc DB2.size _) (hb.mono (by have := DB2.size; simp; omega))
          clear hb
          cases v2 with
          | false =>
            have HF : Hid (bb = false) := Lib.hid (by rw [HW.out]; simp)
            go_wp2_with fail
            refine bodyPost_ret (v := .bool false) (by simp [results, Try.results97, go_sem]) rfl ⟨by rw [HF.out], D3⟩
          | true =>
            go_wp2_with fail
            go_roundw
            case rel => exact ⟨_, 1, by first | rfl | go_num, by omega, by omega, Lib.hid (by obtain ⟨a, b, c, d⟩ := HS2.out; exact ⟨fun h => a (by omega), fun h => b (by omega), fun _ => by first | rfl | trivial, fun h => d (by omega)⟩), Lib.hid D3⟩
            case measure => first | (simp [intOf]; done) | (simp [intOf]; omega)
        · have DB2 := HDB2.out
          obtain rfl : y = 1 := by omega
          clear hj hlt2 hy
          go_wp2_with fail
          refine (rValidRect_any a3 b3 c3 d3 _).mono ?_
          rw [HV3.out]
          rintro e w3 ⟨rfl, hb⟩
          have D3 : Below w.heap.size w w3 := Below.trans (DB2.alloc DB2.size _) (hb.mono (by have := DB2.size; simp; omega))
          clear hb
          cases v3 with
          | false =>
            have HF : Hid (bb = false) := Lib.hid (by rw [HW.out]; simp)
            go_wp2_with fail
            refine bodyPost_ret (v := .bool false) (by simp [results, Try.results97, go_sem]) rfl ⟨by rw [HF.out], D3⟩
          | true =>
            go_wp2_with fail
            go_roundw
            case rel => exact ⟨_, 2, by first | rfl | go_num, by omega, by omega, Lib.hid (by obtain ⟨a, b, c, d⟩ := HS2.out; exact ⟨fun h => a (by omega), fun h => b (by omega), fun h => c (by omega), fun _ => by first | rfl | trivial⟩), Lib.hid D3⟩
            case measure => first | (simp [intOf]; done) | (simp [intOf]; omega)
end Go.Proofs.Ytgbnpnenejgnnaa
