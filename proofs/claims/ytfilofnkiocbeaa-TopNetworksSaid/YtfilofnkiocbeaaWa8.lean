import Derived.Test.YtfilofnkiocbeaaQf8
namespace Go.Proofs.Ytfilofnkiocbeaa
open Go.RowKit Ben
/-- The ways in a single switch, counted by the reference. -/
def WaysR (k : Nat) : Prop := ∀ (cap m dap base : Nat) (ao bo : Option Addr) (p q : Nat → Nat) (f : Nat → Int) (w : World), m ≤ 80 → base + cn k ≤ m → Pm (sz k) p q → Ints w ao (sz k) (fun j => ((p j : Nat) : Int)) → Ints w bo m f →
    Calls Try.prog 60 #[.slice ao (sz k) cap, .slice bo m dap, .int .i64 (base : Int)] w fun e w' => e = .returned (.int .i64 ((wN k p fun i => f (base + i) : Nat) : Int)) ∧ Below w.heap.size w w'
set_option maxRecDepth 100000 in
set_option maxHeartbeats 4000000 in
theorem rways_zero : WaysR 0 := by
  intro cap m dap base ao bo p q f w hm hb _ hc hd
  have hb1 : base + 1 ≤ m := hb
  obtain ⟨b, o, rfl, hcell⟩ := hc (by decide)
  obtain ⟨b', o', rfl, hcell'⟩ := hd (by omega)
  have c0 := hcell 0 (by decide)
  have d0 := hcell' base (by omega)
  rw [Nat.add_zero] at c0
  have k00 : (0 : Int) ≤ (base : Int) := by omega
  have kmm : (base : Int) < (m : Int) := by omega
  obtain ⟨x, hx⟩ : ∃ x, f base = x := ⟨_, rfl⟩
  obtain ⟨y, hy⟩ : ∃ y, p 0 = y := ⟨_, rfl⟩
  simp only [hy] at c0
  rw [hx] at d0
  have HX : Hid (wN 0 p (fun i => f (base + i)) = if mayB x ((y : Int) == 1) = true then 1 else 0) := Lib.hid (by
    have e : ((y : Int) == 1) = decide (y = 1) := by
      by_cases h : y = 1
      · subst h; rfl
      · rw [decide_eq_false h]; exact beq_eq_false_iff_ne.2 (by omega)
    simp only [wN, Nat.add_zero, hx, hy, e]
    rfl)
  clear hcell hcell' hx hy hb hb1
  show Calls Try.prog 60 #[.slice (some ⟨b, o, none⟩) 2 cap, .slice (some ⟨b', o', none⟩) m dap, .int .i64 (base : Int)] w _
  cases hmy : mayB x ((y : Int) == 1)
  all_goals
    rw [hmy] at HX
    go_enter Try.func60, Try.ntmps60
    go_upto_region 3 with fail
    go_quiet ((go_at_call 61; exact Calls.quiet_of_same (may_same _ _ _)))
    rw [hmy]
    go_wp2_with fail
    go_ret
    exact ⟨by rw [HX.out] <;> rfl, drewN_below (Below.refl _ _)⟩
end Go.Proofs.Ytfilofnkiocbeaa
