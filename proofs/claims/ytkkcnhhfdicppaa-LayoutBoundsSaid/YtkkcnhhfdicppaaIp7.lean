import Derived.Test.YtkkcnhhfdicppaaFa7
namespace Lay
def anyN (p : Nat → Bool) : Nat → Bool
  | 0 => false
  | k + 1 => anyN p k || p k
theorem anyN_stop {p : Nat → Bool} {k : Nat} (h : p k = true) : ∀ n, k < n → anyN p n = true := by
  intro n
  induction n with
  | zero => intro h; omega
  | succ n ih =>
    intro hk
    simp only [anyN]
    by_cases e : k = n
    · subst e; rw [h]; simp
    · rw [ih (by omega)]; rfl
theorem anyN_get {p : Nat → Bool} : ∀ {n : Nat}, anyN p n = false → ∀ k, k < n → p k = false := by
  intro n
  induction n with
  | zero => intro _ k hk; omega
  | succ n ih =>
    intro h k hk
    simp only [anyN, Bool.or_eq_false_iff] at h
    by_cases e : k = n
    · subst e; exact h.2
    · exact ih h.1 k (by omega)
/-- As many numbers as cells, and none too great. -/
def anS (n : Nat) (N : Int) (f : Nat → Int) : Bool := decide ((n : Int) = N) && !anyN (fun i => decide (f i < -1000000000 ∨ 1000000000 < f i)) n
/-- A step that shows that numbers are no proof. -/
def badS (W H M : Int) (K : Int → Int → Bool) (f : Nat → Int) (i d : Nat) : Bool :=
  opB W H K ((i % W.toNat : Nat) : Int) ((i / W.toNat : Nat) : Int) && (opB W H K (nx ((i % W.toNat : Nat) : Int) d) (ny ((i / W.toNat : Nat) : Int) d) && decide (f (ny ((i / W.toNat : Nat) : Int) d * W + nx ((i % W.toNat : Nat) : Int) d).toNat + M < f i))
/-- Numbers are a proof. -/
def prS (W H M tx ty : Int) (K : Int → Int → Bool) (f : Nat → Int) (N : Nat) : Bool := !decide (0 < f (ty * W + tx).toNat) && !anyN (fun i => anyN (badS W H M K f i) 4) N
theorem idx_lt {W H x y : Int} {N : Nat} (hN : (N : Int) = W * H) (hx : 0 ≤ x ∧ x < W) (hy : 0 ≤ y ∧ y < H) : 0 ≤ y * W ∧ y * W + x < N := by
  have a : 0 ≤ y * W := Int.mul_nonneg hy.1 (by omega)
  have b : (y + 1) * W ≤ H * W := Int.mul_le_mul_of_nonneg_right (by omega) (by omega)
  rw [Int.add_mul, Int.one_mul, Int.mul_comm H W] at b
  omega
theorem idx_back {Wn i : Nat} : ((i / Wn : Nat) : Int) * (Wn : Int) + ((i % Wn : Nat) : Int) = (i : Int) := by
  have := Nat.div_add_mod i Wn
  rw [Nat.mul_comm] at this
  exact_mod_cast this
end Lay
namespace Go.Proofs.Ytkkcnhhfdicppaa
open Go.RowKit Lay

set_option maxRecDepth 100000 in
set_option maxHeartbeats 4000000 in
theorem index_any (W H M B x y : Int) (n cp m : Nat) (ao : Option Addr) (w : World) (h1 : 0 ≤ y * W) (h2 : y * W ≤ 1000) (hx : 0 ≤ x ∧ x < 30) :
    Calls Try.prog 47 #[bdV W H M B ao n cp m, .agg #[.int .i64 x, .int .i64 y]] w fun e w' => e = .returned (.int .i64 (y * W + x)) ∧ Below w.heap.size w w' := by
  go_enter Try.func47, Try.ntmps47
  go_wp2_with fail
  refine bodyPost_ret (v := .int .i64 (y * W + x)) (by simp [results, Try.results47, go_sem]) rfl ⟨rfl, by go_grown⟩

set_option maxRecDepth 100000 in
set_option maxHeartbeats 4000000 in
theorem areNumbers_any (N : Int) (n cp : Nat) (ao : Option Addr) (f : Nat → Int) (w : World) (hn : n ≤ 9223372036854775807) (hc : Ints w ao n f) :
    Calls Try.prog 46 #[.slice ao n cp, .int .i64 N] w fun e w' => e = .returned (.bool (anS n N f)) ∧ Below w.heap.size w w' := by
  have HC := Lib.hid hc
  clear hc
  by_cases he : (n : Int) = N
  case neg =>
    have hb1 : ((n : Int) != N) = true := bne_iff_ne.2 he
    have HR : Hid (anS n N f = false) := Lib.hid (by unfold anS; rw [decide_eq_false he]; rfl)
    clear he
    go_enter Try.func46, Try.ntmps46
    go_wp2_with fail
    refine bodyPost_ret (v := .bool false) (by simp [results, Try.results46, go_sem]) rfl ⟨by rw [HR.out], by go_grown⟩
  subst he
  go_enter Try.func46, Try.ntmps46
  go_wp2_with fail
  go_loopw [13] (fun iv wr => ∃ k : Nat, iv = .int .i64 k ∧ k ≤ n ∧ Hid (anyN (fun i => decide (f i < -1000000000 ∨ 1000000000 < f i)) k = false) ∧ Hid (Below w.heap.size w wr)) (fun iv _ => n - (intOf iv).toNat)
  case atStart => exact ⟨0, rfl, Nat.zero_le _, Lib.hid rfl, Lib.hid (Below.refl _ _)⟩
  case round =>
    obtain ⟨k, rfl, hk, HV, HB⟩ := hrel
    by_cases hlt : k < n
    · obtain ⟨b, o, rfl, hcell⟩ := (HC.out.keep HB.out) (by omega)
      have c0 := hcell k hlt
      obtain ⟨v, hv⟩ : ∃ z, f k = z := ⟨_, rfl⟩
      rw [hv] at c0
      have HVV := Lib.hid hv
      clear hcell hv
      by_cases h1 : v < -1000000000
      · have HR : Hid (anS n n f = false) := Lib.hid (by unfold anS; rw [anyN_stop (k := k) (by rw [HVV.out]; exact decide_eq_true (Or.inl h1)) n hlt]; simp)
        go_wp2_with fail
        refine bodyPost_ret (v := .bool false) (by simp [results, Try.results46, go_sem]) rfl ⟨by rw [HR.out], HB.out⟩
      by_cases h2 : 1000000000 < v
      · have HR : Hid (anS n n f = false) := Lib.hid (by unfold anS; rw [anyN_stop (k := k) (by rw [HVV.out]; exact decide_eq_true (Or.inr h2)) n hlt]; simp)
        go_wp2_with fail
        refine bodyPost_ret (v := .bool false) (by simp [results, Try.results46, go_sem]) rfl ⟨by rw [HR.out], HB.out⟩
      have HV' : Hid (anyN (fun i => decide (f i < -1000000000 ∨ 1000000000 < f i)) (k + 1) = false) := Lib.hid (by simp only [anyN]; rw [HV.out, HVV.out, decide_eq_false (by omega)]; rfl)
      go_wp2_with fail
      go_roundw
      case rel => exact ⟨k + 1, by go_num, by omega, HV', HB⟩
      case measure => simp [intOf]; omega
    · obtain rfl : n = k := by omega
      have HR : Hid (anS n n f = true) := Lib.hid (by unfold anS; rw [HV.out]; simp)
      go_wp2_with fail
      refine bodyPost_ret (v := .bool true) (by simp [results, Try.results46, go_sem]) rfl ⟨by rw [HR.out], HB.out⟩

end Go.Proofs.Ytkkcnhhfdicppaa
