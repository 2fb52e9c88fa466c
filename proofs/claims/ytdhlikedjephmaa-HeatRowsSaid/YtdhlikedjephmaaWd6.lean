import Derived.Test.YtdhlikedjephmaaHr
import Derived.Test.YtdhlikedjephmaaHb
namespace Heat
/-- Is one of the first k rows longer than ten numbers? -/
def widT (l : Nat → Nat) : Nat → Bool
  | 0 => false
  | k + 1 => widT l k || decide (10 < l k)
theorem widT_stop {l : Nat → Nat} {k : Nat} (h : 10 < l k) : ∀ m, k < m → widT l m = true := by
  intro m
  induction m with
  | zero => intro hk; omega
  | succ n ih =>
    intro hk
    show (widT l n || decide (10 < l n)) = true
    by_cases e : k = n
    · subst e; rw [decide_eq_true h, Bool.or_true]
    · rw [ih (by omega), Bool.true_or]
theorem widT_next {l : Nat → Nat} {k : Nat} (h : widT l k = false) (h1 : ¬ 10 < l k) : widT l (k + 1) = false := by
  show (widT l k || decide (10 < l k)) = false
  rw [h, decide_eq_false h1]; rfl
def wideG (N : Nat) (l : Nat → Nat) : Bool := widT l N || decide (10 < N)
end Heat
namespace Go.Proofs.Ytdhlikedjephmaa
open Go.RowKit Heat
set_option maxRecDepth 100000 in
set_option maxHeartbeats 4000000 in
theorem wide_any (N cap : Nat) (ao : Option Addr) (A : Nat → Option Addr) (l c : Nat → Nat) (F : Nat → Nat → Int) (w : World) (hN : N ≤ 9223372036854775807) (hR : Rowsw w ao N A l c F) :
    Calls Try.prog 22 #[.agg #[.slice ao N cap]] w fun e w' => e = .returned (.bool (wideG N l)) ∧ Below w.heap.size w w' := by
  have hrow : ∀ i, i < N → ∃ b o, ao = some ⟨b, o, none⟩ ∧ b < w.heap.size ∧ w.cell? ⟨b, o + i, none⟩ = some (.slice (A i) (l i) (c i)) := fun i hi => by
    obtain ⟨b, o, e, hc⟩ := hR.1 (by omega)
    exact ⟨b, o, e, World.block_lt_of_cell? w _ (hc i hi), hc i hi⟩
  have HG := Lib.hid hrow
  clear hR hrow
  go_enter Try.func22, Try.ntmps22
  go_wp2_with fail
  go_loopw [3] (fun iv wr => ∃ (z : Int) (k : Nat), iv = .int .i64 z ∧ z = k ∧ k ≤ N ∧ Hid (widT l k = false) ∧ w.alloc (Obj.cells #[.slice ao N cap] 40) = wr) (fun iv _ => N - (intOf iv).toNat)
  case atStart => exact ⟨0, 0, rfl, by omega, by omega, Lib.hid rfl, rfl⟩
  case round =>
    obtain ⟨z, k, rfl, hz, hk, HS, rfl⟩ := hrel
    by_cases hlt : k < N
    · have hlt' : z < (N : Int) := by omega
      subst hz
      have k0 : (0 : Int) ≤ (k : Int) := by omega
      have wz : wrap64 ((k : Int) + 1) = (k : Int) + 1 := by simp only [wrap64]; omega
      obtain ⟨b, o, rfl, hb, g0⟩ := HG.out k hlt
      have g1 : (w.alloc (Obj.cells #[.slice (some ⟨b, o, none⟩) N cap] 40)).cell? ⟨b, o + k, none⟩ = some (.slice (A k) (l k) (c k)) := by go_cell
      clear g0
      by_cases h1 : 10 < l k
      · have HW : Hid (wideG N l = true) := Lib.hid (by unfold wideG; rw [widT_stop h1 N hlt]; rfl)
        have h1' : (10 : Int) < (l k : Int) := by omega
        go_wp2_with fail
        refine bodyPost_ret (v := .bool true) (by simp [results, Try.results22, go_sem]) rfl ⟨by rw [HW.out], by go_grown⟩
      · have HF : Hid (widT l (k + 1) = false) := Lib.hid (widT_next HS.out h1)
        have h1' : ¬ (10 : Int) < (l k : Int) := by omega
        go_wp2_with fail
        go_roundw
        case rel => exact ⟨(k : Int) + 1, k + 1, by first | rfl | rw [wz], by omega, by omega, HF, by first | rfl | trivial⟩
        case measure => first | (simp [intOf]; done) | (simp [intOf]; omega)
    · obtain rfl : k = N := by omega
      subst hz
      have HW : Hid (wideG k l = decide (10 < k)) := Lib.hid (by unfold wideG; rw [HS.out]; rfl)
      by_cases h10 : (10 : Int) < (k : Int)
      · have HD : Hid (decide (10 < k) = true) := Lib.hid (decide_eq_true (by omega))
        have h11 : 10 < k := by omega
        go_wp2_with fail
        refine bodyPost_ret (v := .bool true) (by simp [results, Try.results22, go_sem, h10, h11]) rfl ⟨by rw [HW.out, HD.out], by go_grown⟩
      · have HD : Hid (decide (10 < k) = false) := Lib.hid (decide_eq_false (by omega))
        have h11 : ¬ 10 < k := by omega
        have h12 : k ≤ 10 := by omega
        go_wp2_with fail
        refine bodyPost_ret (v := .bool false) (by simp [results, Try.results22, go_sem, h10, h11, h12]) rfl ⟨by rw [HW.out, HD.out], by go_grown⟩
set_option maxRecDepth 100000 in
set_option maxHeartbeats 4000000 in
theorem rhValid_any (N cap : Nat) (ao : Option Addr) (A : Nat → Option Addr) (l c : Nat → Nat) (F : Nat → Nat → Int) (w : World) (hN : N ≤ 9223372036854775807) (hR : Rowsw w ao N A l c F) :
    Calls Try.prog 32 #[.agg #[.slice ao N cap]] w fun e w' => e = .returned (.bool (okG N l F)) ∧ Below w.heap.size w w' := by
  have HG := Lib.hid hR
  clear hR
  by_cases h1 : (N : Int) < 1
  · have HN : Hid (okG N l F = false) := Lib.hid (by unfold okG; rw [decide_eq_false (by omega)]; rfl)
    rw [HN.out]
    go_enter Try.func32, Try.ntmps32
    go_wp2_with fail
    go_returns
    exact ⟨rfl, by go_grown⟩
  by_cases h2 : 5 < (N : Int)
  · have HN : Hid (okG N l F = false) := Lib.hid (by unfold okG; rw [decide_eq_false (by omega)]; rfl)
    rw [HN.out]
    go_enter Try.func32, Try.ntmps32
    go_wp2_with fail
    go_returns
    exact ⟨rfl, by go_grown⟩
  have HN : Hid (okG N l F = rowsIn N l F N) := Lib.hid (by unfold okG; rw [decide_eq_true (by omega)]; rfl)
  have HLE : Hid (1 ≤ N ∧ N ≤ 5) := Lib.hid (by omega)
  rw [HN.out]
  have hbx : (w.alloc (Obj.cells #[.slice ao N cap] 40)).cell? ⟨w.heap.size, 0, none⟩ = some (.slice ao N cap) := by go_cell
  have hb0 : Below w.heap.size w (w.alloc (Obj.cells #[.slice ao N cap] 40)) := by go_grown
  have hs0 : w.heap.size < (w.alloc (Obj.cells #[.slice ao N cap] 40)).heap.size := by simp
  go_enter Try.func32, Try.ntmps32
  go_upto_region 1 with fail
  generalize w.alloc (Obj.cells #[.slice ao N cap] 40) = W at *
  have HB0 := Lib.hid hb0
  clear hb0
  go_wp2_with fail
  go_loopw [4] (fun iv wr => ∃ (z : Int) (k : Nat), iv = .int .i64 z ∧ z = k ∧ k ≤ N ∧ Hid (rowsIn N l F k = true) ∧ Hid (Below w.heap.size w wr) ∧ wr.cell? ⟨w.heap.size, 0, none⟩ = some (.slice ao N cap)) (fun iv _ => N - (intOf iv).toNat)
  case atStart => exact ⟨0, 0, rfl, by omega, by omega, Lib.hid rfl, HB0, hbx⟩
  case round =>
    obtain ⟨z, k, rfl, hz, hk, HS, HB, hbx1⟩ := hrel
    by_cases hlt : k < N
    · have hlt' : z < (N : Int) := by omega
      subst hz
      have k0 : (0 : Int) ≤ (k : Int) := by omega
      have wz : wrap64 ((k : Int) + 1) = (k : Int) + 1 := by simp only [wrap64]; omega
      have HRW := HG.out.keep HB.out
      obtain ⟨b, o, rfl, hcell⟩ := HRW.1 (by omega)
      have g0 := hcell k hlt
      obtain ⟨hl, hI⟩ := HRW.2 k hlt
      have HL := Lib.hid hl
      have HI := Lib.hid hI
      clear hcell HRW hl hI hbx hs0
      obtain ⟨bb, hbb⟩ : ∃ bb, inB (l k) (F k) N (-200) 200 = bb := ⟨_, rfl⟩
      have HBB := Lib.hid hbb
      have hbxs := World.block_lt_of_cell? _ _ hbx1
      clear hbb
      go_wp2_with fail
      refine (rAll_any (l k) (c k) (A k) (F k) N (-200) 200 _ HL.out HI.out).mono ?_
      rw [HBB.out]
      rintro e w1 ⟨rfl, hb⟩
      have D1 : Hid (Below w.heap.size w w1) := Lib.hid (HB.out.trans (hb.mono HB.out.size))
      have hbx2 := (hb.cell (p := ⟨w.heap.size, 0, none⟩) hbxs).trans hbx1
      clear hb g0 HI hbx1 hbxs
      cases bb with
      | false =>
        have HF : Hid (rowsIn N l F N = false) := Lib.hid (rowsIn_stop HBB.out N hlt)
        go_wp2_with fail
        refine bodyPost_ret (v := .bool false) (by simp [results, Try.results32, go_sem]) rfl ⟨by rw [HF.out], D1.out⟩
      | true =>
        have HF : Hid (rowsIn N l F (k + 1) = true) := Lib.hid (rowsIn_next HS.out HBB.out)
        go_wp2_with fail
        go_roundw
        case rel => exact ⟨(k : Int) + 1, k + 1, by first | rfl | rw [wz], by omega, by omega, HF, D1, hbx2⟩
        case measure => first | (simp [intOf]; done) | (simp [intOf]; omega)
    · obtain rfl : k = N := by omega
      subst hz
      go_wp2_with fail
      refine bodyPost_ret (v := .bool true) (by simp [results, Try.results32, go_sem]) rfl ⟨by rw [HS.out], HB.out⟩
end Go.Proofs.Ytdhlikedjephmaa
