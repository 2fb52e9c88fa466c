import Derived.Test.YtilclpldfoifkaaGw5
import Derived.Test.YtilclpldfoifkaaPw5
namespace Encl
theorem ne0_powO (x : Rc) : Ne0 (powO x) := by
  unfold powO
  split
  · exact ne0_powR x
  · intro k h; have := Out.bad.inj h; omega
theorem ne0_rootO (x : Sp) : Ne0 (rootO x) := by
  unfold rootO
  split
  · split
    · intro k h; have := Out.bad.inj h; omega
    · exact ne0_ok _
  · intro k h; have := Out.bad.inj h; omega
end Encl
namespace Go.Proofs.Ytilclpldfoifkaa
open Go.RowKit Encl
theorem hold_of {o oo : Out Sp} (hm : ∀ b, oo = .ok b → ∃ a, o = .ok a ∧ okS a = true ∧ okS b = true ∧ InS a b) (h0 : Ne0 oo) :
    (∃ a1 a2 b1 b2 : Int, OutS o = .returned (.tuple #[.agg #[.int .i64 a1, .int .i64 a2], .int .i64 0]) ∧ OutS oo = .returned (.tuple #[.agg #[.int .i64 b1, .int .i64 b2], .int .i64 0]) ∧ (insideS ⟨⟨a1, a2⟩, ⟨0, 0⟩⟩ ⟨⟨b1, b2⟩, ⟨0, 0⟩⟩).1 = true) ∨
    (∃ a1 a2 b1 b2 e k : Int, OutS o = .returned (.tuple #[.agg #[.int .i64 a1, .int .i64 a2], .int .i64 e]) ∧ OutS oo = .returned (.tuple #[.agg #[.int .i64 b1, .int .i64 b2], .int .i64 k]) ∧ ¬ k = 0) := by
  cases hF : oo with
  | ok b =>
    obtain ⟨a, ha, k1, k2, hab⟩ := hm b hF
    rw [ha]
    left
    refine ⟨_, _, _, _, rfl, rfl, (inside_iff _ _).2 ⟨?_, ?_, hab, ?_⟩⟩
    · rw [okR_iff]; exact ⟨k1, (show okS ⟨0, 0⟩ = true by decide)⟩
    · rw [okR_iff]; exact ⟨k2, (show okS ⟨0, 0⟩ = true by decide)⟩
    · exact ⟨Int.le_refl _, Int.le_refl _⟩
  | bad k =>
    right
    have hk0 := h0 k hF
    cases o with
    | ok a => exact ⟨_, _, _, _, _, _, rfl, rfl, hk0⟩
    | bad j => exact ⟨_, _, _, _, _, _, rfl, rfl, hk0⟩
theorem hold_of2 {o oo : Out Sp} (hm : ∀ b, oo = .ok b → ∃ a, o = .ok a ∧ okS a = true ∧ okS b = true ∧ InS a b) (h0 : Ne0 oo) :
    ∃ a1 a2 b1 b2 e k : Int, OutS o = .returned (.tuple #[.agg #[.int .i64 a1, .int .i64 a2], .int .i64 e]) ∧ OutS oo = .returned (.tuple #[.agg #[.int .i64 b1, .int .i64 b2], .int .i64 k]) ∧ ((e = 0 ∧ k = 0 ∧ (insideS ⟨⟨a1, a2⟩, ⟨0, 0⟩⟩ ⟨⟨b1, b2⟩, ⟨0, 0⟩⟩).1 = true) ∨ ¬ k = 0) := by
  rcases hold_of hm h0 with ⟨a1, a2, b1, b2, h1, h2, h3⟩ | ⟨a1, a2, b1, b2, e, k, h1, h2, h3⟩
  · exact ⟨a1, a2, b1, b2, 0, 0, h1, h2, .inl ⟨rfl, rfl, h3⟩⟩
  · exact ⟨a1, a2, b1, b2, e, k, h1, h2, .inr h3⟩
theorem hold_power {x p : Rc} (h : (insideS x p).1 = true) : ∀ b, powO p = .ok b → ∃ a, powO x = .ok a ∧ okS a = true ∧ okS b = true ∧ InS a b := by
  obtain ⟨h1, h2, h3⟩ := (inside_iff _ _).1 h
  intro b hb
  unfold powO at hb ⊢
  rw [if_pos h2] at hb
  rw [if_pos h1]
  obtain ⟨a, ha, hab⟩ := powR_mono h3 h1 hb
  exact ⟨a, ha, powR_ok ha, powR_ok hb, hab⟩
theorem hold_root {s r : Sp} (h : (insideS ⟨s, ⟨0, 0⟩⟩ ⟨r, ⟨0, 0⟩⟩).1 = true) : ∀ b, rootO r = .ok b → ∃ a, rootO s = .ok a ∧ okS a = true ∧ okS b = true ∧ InS a b := by
  obtain ⟨h1, h2, h3, _⟩ := (inside_iff _ _).1 h
  have h1 := ((okR_iff _).1 h1).1
  have h2 := ((okR_iff _).1 h2).1
  simp only at h1 h2 h3
  intro b hb
  unfold rootO at hb ⊢
  rw [if_pos h2] at hb
  rw [if_pos h1]
  by_cases hr : r.lo < 0
  · rw [if_pos hr] at hb; cases hb
  rw [if_neg hr] at hb
  have hs : ¬ s.lo < 0 := by have := h3.1; omega
  rw [if_neg hs, ← Out.ok.inj hb]
  exact ⟨_, rfl, (rootS_ok h1 (by omega)).1, (rootS_ok h2 (by omega)).1, rootS_mono h3 h1 h2 (by omega) (by omega)⟩
set_option maxRecDepth 100000 in
theorem wideL2_any (p q : Int) (w : World) :
    Calls Try.prog 48 #[.agg #[.int .i64 p, .int .i64 q]] w fun e w' => e = .returned (.agg #[.int .i64 p, .int .i64 q, .int .i64 0, .int .i64 0]) ∧ Below w.heap.size w w' := by
  go_enter Try.func48, Try.ntmps48
  go_wp2_with fail
  refine bodyPost_ret (v := .agg #[.int .i64 p, .int .i64 q, .int .i64 0, .int .i64 0]) (by simp [results, Try.results48, go_sem]) rfl ⟨rfl, by go_grown⟩
end Go.Proofs.Ytilclpldfoifkaa
