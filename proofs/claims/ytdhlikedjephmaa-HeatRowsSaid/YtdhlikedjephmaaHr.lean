import Derived.Test.YtdhlikedjephmaaHo
import Derived.Test.YtdhlikedjephmaaHc
namespace Heat
open Go Go.RowKit
/-- The first k rows have N numbers each, each from -200 to 200. -/
def rowsIn (N : Nat) (l : Nat → Nat) (F : Nat → Nat → Int) : Nat → Bool
  | 0 => true
  | k + 1 => rowsIn N l F k && inB (l k) (F k) N (-200) 200
theorem rowsIn_stop {N : Nat} {l : Nat → Nat} {F : Nat → Nat → Int} {k : Nat} (h : inB (l k) (F k) N (-200) 200 = false) : ∀ m, k < m → rowsIn N l F m = false := by
  intro m
  induction m with
  | zero => intro hk; omega
  | succ n ih =>
    intro hk
    show (rowsIn N l F n && inB (l n) (F n) N (-200) 200) = false
    by_cases e : k = n
    · subst e; rw [h, Bool.and_false]
    · rw [ih (by omega), Bool.false_and]
theorem rowsIn_next {N : Nat} {l : Nat → Nat} {F : Nat → Nat → Int} {k : Nat} (h : rowsIn N l F k = true) (h1 : inB (l k) (F k) N (-200) 200 = true) : rowsIn N l F (k + 1) = true := by
  show (rowsIn N l F k && inB (l k) (F k) N (-200) 200) = true
  rw [h, h1]; rfl
theorem rowsIn_iff {N : Nat} {l : Nat → Nat} {F : Nat → Nat → Int} {m : Nat} : rowsIn N l F m = true ↔ ∀ k, k < m → inB (l k) (F k) N (-200) 200 = true := by
  induction m with
  | zero => exact ⟨fun _ k hk => by omega, fun _ => rfl⟩
  | succ n ih =>
    show (rowsIn N l F n && inB (l n) (F n) N (-200) 200) = true ↔ _
    rw [Bool.and_eq_true, ih]
    constructor
    · rintro ⟨h1, h2⟩ k hk
      by_cases e : k = n
      · subst e; exact h2
      · exact h1 k (by omega)
    · intro h; exact ⟨fun k hk => h k (by omega), h n (by omega)⟩
def okG (N : Nat) (l : Nat → Nat) (F : Nat → Nat → Int) : Bool := decide (1 ≤ N ∧ N ≤ 5) && rowsIn N l F N
theorem inB_iff {n : Nat} {f : Nat → Int} {m lo hi : Int} : inB n f m lo hi = true ↔ (n : Int) = m ∧ ∀ k, k < n → lo ≤ f k ∧ f k ≤ hi := by
  unfold inB
  rw [Bool.and_eq_true, decide_eq_true_iff, inTo_iff]
theorem okG_iff {N : Nat} {l : Nat → Nat} {F : Nat → Nat → Int} : okG N l F = true ↔ (1 ≤ N ∧ N ≤ 5) ∧ ∀ i, i < N → l i = N ∧ ∀ j, j < N → -200 ≤ F i j ∧ F i j ≤ 200 := by
  unfold okG
  rw [Bool.and_eq_true, decide_eq_true_iff, rowsIn_iff]
  constructor
  · rintro ⟨h, g⟩
    exact ⟨h, fun i hi => by obtain ⟨a, b⟩ := inB_iff.1 (g i hi); exact ⟨by omega, fun j hj => b j (by omega)⟩⟩
  · rintro ⟨h, g⟩
    exact ⟨h, fun i hi => inB_iff.2 ⟨by rw [(g i hi).1], fun j hj => (g i hi).2 j (by rw [← (g i hi).1]; exact hj)⟩⟩
end Heat
namespace Go.Proofs.Ytdhlikedjephmaa
open Go.RowKit Heat
/-- A list of N rows of numbers. -/
def Rowsw (w : World) (ao : Option Addr) (N : Nat) (A : Nat → Option Addr) (l c : Nat → Nat) (F : Nat → Nat → Int) : Prop :=
  (0 < N → ∃ b o, ao = some ⟨b, o, none⟩ ∧ ∀ i, i < N → w.cell? ⟨b, o + i, none⟩ = some (.slice (A i) (l i) (c i))) ∧ ∀ i, i < N → l i ≤ 9223372036854775807 ∧ Ints w (A i) (l i) (F i)
theorem Rowsw.keep {w w1 : World} {ao : Option Addr} {N : Nat} {A : Nat → Option Addr} {l c : Nat → Nat} {F : Nat → Nat → Int} (h : Rowsw w ao N A l c F) (hb : Below w.heap.size w w1) : Rowsw w1 ao N A l c F :=
  ⟨fun hN => by
    obtain ⟨b, o, e, hc⟩ := h.1 hN
    exact ⟨b, o, e, fun i hi => (hb.cell (p := ⟨b, o + i, none⟩) (World.block_lt_of_cell? w _ (hc i hi))).trans (hc i hi)⟩, fun i hi => ⟨(h.2 i hi).1, (h.2 i hi).2.keep hb⟩⟩
set_option maxRecDepth 100000 in
set_option maxHeartbeats 4000000 in
theorem hValid_any (N cap : Nat) (ao : Option Addr) (A : Nat → Option Addr) (l c : Nat → Nat) (F : Nat → Nat → Int) (w : World) (hN : N ≤ 9223372036854775807) (hR : Rowsw w ao N A l c F) :
    Calls Try.prog 31 #[.agg #[.slice ao N cap]] w fun e w' => e = .returned (.bool (okG N l F)) ∧ Below w.heap.size w w' := by
  have HG := Lib.hid hR
  clear hR
  by_cases h1 : (N : Int) < 1
  · have HN : Hid (okG N l F = false) := Lib.hid (by unfold okG; rw [decide_eq_false (by omega)]; rfl)
    rw [HN.out]
    go_enter Try.func31, Try.ntmps31
    go_wp2_with fail
    go_returns
    exact ⟨rfl, by go_grown⟩
  by_cases h2 : 5 < (N : Int)
  · have HN : Hid (okG N l F = false) := Lib.hid (by unfold okG; rw [decide_eq_false (by omega)]; rfl)
    rw [HN.out]
    go_enter Try.func31, Try.ntmps31
    go_wp2_with fail
    go_returns
    exact ⟨rfl, by go_grown⟩
  have HN : Hid (okG N l F = rowsIn N l F N) := Lib.hid (by unfold okG; rw [decide_eq_true (by omega)]; rfl)
  have HLE : Hid (1 ≤ N ∧ N ≤ 5) := Lib.hid (by omega)
  rw [HN.out]
  go_enter Try.func31, Try.ntmps31
  go_wp2_with fail
  go_loopw [18] (fun iv wr => ∃ k : Nat, iv = .int .i64 k ∧ k ≤ N ∧ Hid (rowsIn N l F k = true) ∧ Hid (Below w.heap.size w wr)) (fun iv _ => N - (intOf iv).toNat)
  case atStart => exact ⟨0, rfl, by omega, Lib.hid rfl, Lib.hid (by go_grown)⟩
  case round =>
    obtain ⟨k, rfl, hk, HS, HB⟩ := hrel
    by_cases hlt : k < N
    · have hlt' : (k : Int) < (N : Int) := by omega
      have HRW := HG.out.keep HB.out
      obtain ⟨b, o, rfl, hcell⟩ := HRW.1 (by omega)
      have g0 := hcell k hlt
      obtain ⟨hl, hI⟩ := HRW.2 k hlt
      have HL := Lib.hid hl
      have HI := Lib.hid hI
      clear hcell HRW hl hI
      obtain ⟨bb, hbb⟩ : ∃ bb, inB (l k) (F k) N (-200) 200 = bb := ⟨_, rfl⟩
      have HBB := Lib.hid hbb
      clear hbb
      go_wp2_with fail
      refine (within_any (l k) (c k) (A k) (F k) N (-200) 200 _ HL.out HI.out).mono ?_
      rw [HBB.out]
      rintro e w1 ⟨rfl, hb⟩
      have D1 : Hid (Below w.heap.size w w1) := Lib.hid (HB.out.trans (hb.mono HB.out.size))
      clear hb g0 HI
      cases bb with
      | false =>
        have HF : Hid (rowsIn N l F N = false) := Lib.hid (rowsIn_stop HBB.out N hlt)
        go_wp2_with fail
        refine bodyPost_ret (v := .bool false) (by simp [results, Try.results31, go_sem]) rfl ⟨by rw [HF.out], D1.out⟩
      | true =>
        have HF : Hid (rowsIn N l F (k + 1) = true) := Lib.hid (rowsIn_next HS.out HBB.out)
        go_wp2_with fail
        go_roundw
        case rel => exact ⟨k + 1, by go_num, by omega, HF, D1⟩
        case measure => simp [intOf]; omega
    · obtain rfl : k = N := by omega
      go_wp2_with fail
      refine bodyPost_ret (v := .bool true) (by simp [results, Try.results31, go_sem]) rfl ⟨by rw [HS.out], HB.out⟩
end Go.Proofs.Ytdhlikedjephmaa
