import Derived.Test.YtfilofnkiocbeaaWa8
namespace Go.Proofs.Ytfilofnkiocbeaa
open Go.RowKit Ben
/-- The ways of a permutation, counted by the program. -/
def WaysP (k : Nat) : Prop := ∀ (cap dap : Nat) (ao bo : Option Addr) (p q : Nat → Nat) (f : Nat → Int) (w : World), Pm (sz k) p q → Ints w ao (sz k) (fun j => ((p j : Nat) : Int)) → Ints w bo (cn k) f →
    Calls Try.prog 62 #[.slice ao (sz k) cap, .slice bo (cn k) dap] w fun e w' => e = .returned (.int .i64 ((wN k p f : Nat) : Int)) ∧ Below w.heap.size w w'
theorem wN_zero (p : Nat → Nat) (f : Nat → Int) : wN 0 p f = if agB (fun _ => (((p 0 : Nat) : Int) == 1)) f 1 = true then 1 else 0 := by
  have e : (((p 0 : Nat) : Int) == 1) = decide (p 0 = 1) := by
    by_cases h : p 0 = 1
    · rw [h]; rfl
    · rw [decide_eq_false h]; exact beq_eq_false_iff_ne.2 (by omega)
  simp only [wN, agB, e, Bool.true_and]
  rfl
set_option maxRecDepth 100000 in
set_option maxHeartbeats 4000000 in
theorem pways_zero : WaysP 0 := by
  intro cap dap ao bo p q f w _ hc hd
  obtain ⟨b, o, rfl, hcell⟩ := hc (by decide)
  have HD := Lib.hid hd
  have HX := Lib.hid (wN_zero p f)
  have hbl : Below w.heap.size w (w.alloc (.cells #[.bool (((p 0 : Nat) : Int) == 1)] 4)) := by go_grown
  have hco : Bools (w.alloc (.cells #[.bool (((p 0 : Nat) : Int) == 1)] 4)) (some ⟨w.heap.size, 0, none⟩) 1 (fun _ => (((p 0 : Nat) : Int) == 1)) := by
    intro _
    refine ⟨_, _, rfl, fun i hi => ?_⟩
    obtain rfl : i = 0 := by omega
    go_cell
  have hcell2 : ∀ i, i < 2 → w.cell? ⟨b, o + i, none⟩ = some (.int .i64 ((fun j => ((p j : Nat) : Int)) i)) := hcell
  have HB := Lib.hid hbl
  have HCo := Lib.hid hco
  clear hc hd hbl hco hcell
  show Calls Try.prog 62 #[.slice (some ⟨b, o, none⟩) 2 cap, .slice bo 1 dap] w _
  go_enter Try.func62, Try.ntmps62
  go_wp2_with fail
  refine (only_any 2 cap b o (fun j => ((p j : Nat) : Int)) _ (by decide) hcell2).mono ?_
  rintro e w' ⟨rfl, rfl⟩
  clear hcell2
  go_wp2_with fail
  refine (agree_any 1 1 1 dap _ bo _ f _ (by decide) (by decide) (by decide) HCo.out (HD.out.keep HB.out)).mono ?_
  rintro e w' ⟨rfl, rfl⟩
  cases ha : agB (fun _ => (((p 0 : Nat) : Int) == 1)) f 1
  all_goals
    rw [ha] at HX
    go_wp2_with fail
    go_ret
    exact ⟨by rw [HX.out] <;> rfl, HB.out⟩
end Go.Proofs.Ytfilofnkiocbeaa
