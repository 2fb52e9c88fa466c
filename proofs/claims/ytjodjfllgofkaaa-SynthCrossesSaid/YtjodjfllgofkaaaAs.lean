import Derived.Test.YtjodjfllgofkaaaCk
namespace Amp
def itR (x : It) : Int := if x.kind = 1 then (if 1 ≤ x.n ∧ x.n ≤ 7 ∧ x.name.toList.isEmpty = true then 1 else 0) else if x.kind = 2 ∨ x.kind = 3 then (if x.n = 0 ∧ x.name.toList.isEmpty = true then 2 else 0) else 0
theorem itR_yes {x : It} (h : itB x = true) : itR x = itW x ∧ 0 < itW x := by
  unfold itB at h
  unfold itR itW
  split at h
  · next h1 =>
    rw [if_pos h1, if_pos h1]
    rw [Bool.and_eq_true, Bool.and_eq_true, decide_eq_true_eq, decide_eq_true_eq] at h
    rw [if_pos ⟨by omega, by omega, h.2.2⟩]
    omega
  · next h1 =>
    split at h
    · next h2 =>
      rw [if_neg h1, if_pos h2, if_neg h1, if_pos h2]
      rw [Bool.and_eq_true, decide_eq_true_eq] at h
      rw [if_pos ⟨h.1, h.2⟩]
      omega
    · cases h
theorem itR_no {x : It} (h : itB x = false) : itR x = 0 := by
  unfold itB at h
  unfold itR
  split at h
  · next h1 =>
    rw [if_pos h1, if_neg]
    intro ⟨a, b, c⟩
    rw [decide_eq_true (show 0 < x.n by omega), decide_eq_true (show x.n < 8 by omega), c] at h
    cases h
  · next h1 =>
    split at h
    · next h2 =>
      rw [if_neg h1, if_pos h2, if_neg]
      intro ⟨a, c⟩
      rw [decide_eq_true a, c] at h
      cases h
    · next h2 => rw [if_neg h1, if_neg h2]
end Amp
namespace Go.Proofs.Ytjodjfllgofkaaa
open Go.RowKit Amp
attribute [local go_sem] ix0 ix1 ix2 ix3 jx0 jx1 jx2 jx3
attribute [local go_sem high] run_eqNum run_neNum
def WidR (w : World) (e : Ending) (a : Int) (w' : World) : Prop := e = .returned (.int .i64 a) ∧ Below w.heap.size w w'
theorem wide_1 (at' m : Int) (nm : ByteArray) (w : World) :
    Calls Try.prog 89 #[.slice none 0 0, .agg #[.int .i64 1, .int .i64 at', .int .i64 m, .string nm]] w fun e w' => WidR w e (itR ⟨1, at', m, nm⟩) w' := by
  by_cases hc : 1 ≤ m ∧ m ≤ 7
  · obtain ⟨h1, h2⟩ := hc
    cases hE : nm.toList.isEmpty
    · have HE : Hid (itR ⟨1, at', m, nm⟩ = 0) := Lib.hid (by unfold itR; rw [if_pos rfl, if_neg (fun h => by rw [hE] at h; cases h.2.2)])
      go_enter Try.func89, Try.ntmps89
      go_wp2_with fail
      go_returns
      exact ⟨by rw [HE.out]; rfl, by go_grown⟩
    · have HE : Hid (itR ⟨1, at', m, nm⟩ = 1) := Lib.hid (by unfold itR; rw [if_pos rfl, if_pos ⟨h1, h2, hE⟩])
      go_enter Try.func89, Try.ntmps89
      go_wp2_with fail
      go_returns
      exact ⟨by rw [HE.out]; rfl, by go_grown⟩
  · have HE : Hid (itR ⟨1, at', m, nm⟩ = 0) := Lib.hid (by unfold itR; rw [if_pos rfl, if_neg (fun h => hc ⟨h.1, h.2.1⟩)])
    by_cases h1 : 1 ≤ m
    · have h2 : ¬ m ≤ 7 := fun h => hc ⟨h1, h⟩
      clear hc
      go_enter Try.func89, Try.ntmps89
      go_wp2_with fail
      go_returns
      exact ⟨by rw [HE.out]; rfl, by go_grown⟩
    · clear hc
      go_enter Try.func89, Try.ntmps89
      go_wp2_with fail
      go_returns
      exact ⟨by rw [HE.out]; rfl, by go_grown⟩
theorem wide_2 (at' m : Int) (nm : ByteArray) (w : World) :
    Calls Try.prog 89 #[.slice none 0 0, .agg #[.int .i64 2, .int .i64 at', .int .i64 m, .string nm]] w fun e w' => WidR w e (itR ⟨2, at', m, nm⟩) w' := by
  have h0 : itR ⟨2, at', m, nm⟩ = if m = 0 ∧ nm.toList.isEmpty = true then 2 else 0 := rfl
  by_cases h1 : m = 0
  · have hb : (m == 0) = true := beq_iff_eq.2 h1
    cases hE : nm.toList.isEmpty
    · have HE : Hid (itR ⟨2, at', m, nm⟩ = 0) := Lib.hid (by rw [h0, if_neg (fun h => by rw [hE] at h; cases h.2)])
      clear h0 h1
      go_enter Try.func89, Try.ntmps89
      go_wp2_with fail
      go_returns
      exact ⟨by rw [HE.out]; rfl, by go_grown⟩
    · have HE : Hid (itR ⟨2, at', m, nm⟩ = 2) := Lib.hid (by rw [h0, if_pos ⟨h1, hE⟩])
      clear h0 h1
      go_enter Try.func89, Try.ntmps89
      go_wp2_with fail
      go_returns
      exact ⟨by rw [HE.out]; rfl, by go_grown⟩
  · have hb : (m == 0) = false := beq_eq_false_iff_ne.2 h1
    have HE : Hid (itR ⟨2, at', m, nm⟩ = 0) := Lib.hid (by rw [h0, if_neg (fun h => h1 h.1)])
    clear h0 h1
    go_enter Try.func89, Try.ntmps89
    go_wp2_with fail
    go_returns
    exact ⟨by rw [HE.out]; rfl, by go_grown⟩
theorem wide_3 (at' m : Int) (nm : ByteArray) (w : World) :
    Calls Try.prog 89 #[.slice none 0 0, .agg #[.int .i64 3, .int .i64 at', .int .i64 m, .string nm]] w fun e w' => WidR w e (itR ⟨3, at', m, nm⟩) w' := by
  have h0 : itR ⟨3, at', m, nm⟩ = if m = 0 ∧ nm.toList.isEmpty = true then 2 else 0 := rfl
  by_cases h1 : m = 0
  · have hb : (m == 0) = true := beq_iff_eq.2 h1
    cases hE : nm.toList.isEmpty
    · have HE : Hid (itR ⟨3, at', m, nm⟩ = 0) := Lib.hid (by rw [h0, if_neg (fun h => by rw [hE] at h; cases h.2)])
      clear h0 h1
      go_enter Try.func89, Try.ntmps89
      go_wp2_with fail
      go_returns
      exact ⟨by rw [HE.out]; rfl, by go_grown⟩
    · have HE : Hid (itR ⟨3, at', m, nm⟩ = 2) := Lib.hid (by rw [h0, if_pos ⟨h1, hE⟩])
      clear h0 h1
      go_enter Try.func89, Try.ntmps89
      go_wp2_with fail
      go_returns
      exact ⟨by rw [HE.out]; rfl, by go_grown⟩
  · have hb : (m == 0) = false := beq_eq_false_iff_ne.2 h1
    have HE : Hid (itR ⟨3, at', m, nm⟩ = 0) := Lib.hid (by rw [h0, if_neg (fun h => h1 h.1)])
    clear h0 h1
    go_enter Try.func89, Try.ntmps89
    go_wp2_with fail
    go_returns
    exact ⟨by rw [HE.out]; rfl, by go_grown⟩
theorem named_nil (s : ByteArray) (w : World) :
    Calls Try.prog 110 #[.slice none 0 0, .string s] w fun e w' => e = .returned (.int .i64 (-1)) ∧ w = w' := by
  go_enter Try.func110, Try.ntmps110
  go_wp2_with fail
  go_rounds 1
  go_returns
  exact ⟨rfl, rfl⟩
theorem wide_4 (at' m : Int) (nm : ByteArray) (w : World) :
    Calls Try.prog 89 #[.slice none 0 0, .agg #[.int .i64 4, .int .i64 at', .int .i64 m, .string nm]] w fun e w' => WidR w e 0 w' := by
  go_enter Try.func89, Try.ntmps89
  go_wp2_with fail
  refine (named_nil _ _).mono ?_
  rintro e w' ⟨rfl, rfl⟩
  go_wp2_with fail
  go_returns
  exact ⟨rfl, by go_grown⟩
theorem wide_0 (k at' m : Int) (nm : ByteArray) (w : World) (h : ¬ (k = 1 ∨ k = 2 ∨ k = 3 ∨ k = 4)) :
    Calls Try.prog 89 #[.slice none 0 0, .agg #[.int .i64 k, .int .i64 at', .int .i64 m, .string nm]] w fun e w' => WidR w e 0 w' := by
  have h1 : (k == 1) = false := beq_eq_false_iff_ne.2 (by omega)
  have h2 : (k == 2) = false := beq_eq_false_iff_ne.2 (by omega)
  have h3 : (k == 3) = false := beq_eq_false_iff_ne.2 (by omega)
  have h4 : (k == 4) = false := beq_eq_false_iff_ne.2 (by omega)
  clear h
  go_enter Try.func89, Try.ntmps89
  go_wp2_with fail
  go_returns
  exact ⟨rfl, by go_grown⟩
theorem wide_any (k at' m : Int) (nm : ByteArray) (w : World) :
    Calls Try.prog 89 #[.slice none 0 0, .agg #[.int .i64 k, .int .i64 at', .int .i64 m, .string nm]] w fun e w' => e = .returned (.int .i64 (itR ⟨k, at', m, nm⟩)) ∧ Below w.heap.size w w' := by
  by_cases h1 : k = 1
  · subst h1; exact wide_1 at' m nm w
  · by_cases h2 : k = 2
    · subst h2; exact wide_2 at' m nm w
    · by_cases h3 : k = 3
      · subst h3; exact wide_3 at' m nm w
      · have e1 : itR ⟨k, at', m, nm⟩ = 0 := by unfold itR; rw [if_neg h1, if_neg (by simp only; omega)]
        rw [e1]
        by_cases h4 : k = 4
        · subst h4; exact wide_4 at' m nm w
        · exact wide_0 k at' m nm w (by omega)
end Go.Proofs.Ytjodjfllgofkaaa
