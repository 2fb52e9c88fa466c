import Derived.Test.YtdhlikedjephmaaIb
import Derived.RegionTactic
namespace Heat
/-- Are the first n numbers of f from lo to hi? -/
def inTo (f : Nat → Int) (lo hi : Int) : Nat → Bool
  | 0 => true
  | k + 1 => inTo f lo hi k && (decide (lo ≤ f k) && decide (f k ≤ hi))
theorem inTo_stop {f : Nat → Int} {lo hi : Int} {k : Nat} (h : ¬ (lo ≤ f k ∧ f k ≤ hi)) : ∀ m, k < m → inTo f lo hi m = false := by
  intro m
  induction m with
  | zero => intro h; omega
  | succ m ih =>
    intro hk
    simp only [inTo]
    by_cases e : k = m
    · subst e
      have : (decide (lo ≤ f k) && decide (f k ≤ hi)) = false := by simp; omega
      rw [this]; simp
    · rw [ih (by omega)]; rfl
theorem inTo_next {f : Nat → Int} {lo hi : Int} {k : Nat} (h : inTo f lo hi k = true) (h1 : lo ≤ f k) (h2 : f k ≤ hi) : inTo f lo hi (k + 1) = true := by
  simp only [inTo]; rw [h, decide_eq_true h1, decide_eq_true h2]; rfl
theorem inTo_iff {f : Nat → Int} {lo hi : Int} {n : Nat} : inTo f lo hi n = true ↔ ∀ k, k < n → lo ≤ f k ∧ f k ≤ hi := by
  induction n with
  | zero => simp [inTo]
  | succ n ih =>
    simp only [inTo, Bool.and_eq_true, ih, decide_eq_true_eq]
    constructor
    · rintro ⟨h1, h2⟩ k hk
      by_cases e : k = n
      · subst e; exact h2
      · exact h1 k (by omega)
    · intro h; exact ⟨fun k hk => h k (by omega), h n (by omega)⟩
/-- A list of m numbers, each from lo to hi. -/
def inB (n : Nat) (f : Nat → Int) (m lo hi : Int) : Bool := decide ((n : Int) = m) && inTo f lo hi n
def absI (x : Int) : Int := max x (-x)
/-- The sum of the first n numbers. -/
def sumI (f : Nat → Int) : Nat → Int
  | 0 => 0
  | k + 1 => sumI f k + f k
end Heat
namespace Go.Proofs.Ytdhlikedjephmaa
open Go.RowKit Heat

set_option maxRecDepth 100000 in
set_option maxHeartbeats 4000000 in
theorem within_any (n cap : Nat) (ao : Option Addr) (f : Nat → Int) (m lo hi : Int) (w : World) (hn : n ≤ 9223372036854775807) (hc : Ints w ao n f) :
    Calls Try.prog 60 #[.slice ao n cap, .int .i64 m, .int .i64 lo, .int .i64 hi] w fun e w' => e = .returned (.bool (inB n f m lo hi)) ∧ Below w.heap.size w w' := by
  have HC := Lib.hid hc
  clear hc
  by_cases hm : (n : Int) = m
  case neg =>
    have HF : Hid (inB n f m lo hi = false) := Lib.hid (by unfold inB; rw [decide_eq_false hm]; rfl)
    have hb : ((n : Int) != m) = true := bne_iff_ne.2 hm
    rw [HF.out]
    clear hm
    go_enter Try.func60, Try.ntmps60
    go_wp2_with fail
    go_returns
    exact ⟨rfl, Below.refl _ _⟩
  have HF : Hid (inB n f m lo hi = inTo f lo hi n) := Lib.hid (by unfold inB; rw [decide_eq_true hm]; rfl)
  have hb : ((n : Int) != m) = false := by simp [hm]
  rw [HF.out]
  clear hm
  go_enter Try.func60, Try.ntmps60
  go_wp2_with fail
  go_loopw [17] (fun iv wr => ∃ k : Nat, iv = .int .i64 k ∧ k ≤ n ∧ Hid (inTo f lo hi k = true) ∧ w = wr) (fun iv _ => n - (intOf iv).toNat)
  case atStart => exact ⟨0, rfl, by omega, Lib.hid rfl, rfl⟩
  case round =>
    obtain ⟨k, rfl, hk, HS, rfl⟩ := hrel
    by_cases hlt : k < n
    · have hlt' : (k : Int) < (n : Int) := by omega
      obtain ⟨b, o, rfl, hcell⟩ := HC.out (by omega)
      have g0 := hcell k hlt
      clear hcell
      obtain ⟨x, hx⟩ : ∃ x, f k = x := ⟨_, rfl⟩
      have HX := Lib.hid hx
      rw [hx] at g0
      clear hx
      by_cases h1 : x < lo
      · have HN : Hid (inTo f lo hi n = false) := Lib.hid (inTo_stop (k := k) (by rw [HX.out]; omega) n hlt)
        go_wp2_with fail
        refine bodyPost_ret (v := .bool false) (by simp [results, Try.results60, go_sem]) rfl ⟨by rw [HN.out], Below.refl _ _⟩
      · by_cases h2 : hi < x
        · have HN : Hid (inTo f lo hi n = false) := Lib.hid (inTo_stop (k := k) (by rw [HX.out]; omega) n hlt)
          go_wp2_with fail
          refine bodyPost_ret (v := .bool false) (by simp [results, Try.results60, go_sem]) rfl ⟨by rw [HN.out], Below.refl _ _⟩
        · have HN : Hid (inTo f lo hi (k + 1) = true) := Lib.hid (inTo_next HS.out (by rw [HX.out]; omega) (by rw [HX.out]; omega))
          go_wp2_with fail
          go_roundw
          case rel => exact ⟨k + 1, by go_num, by omega, HN, by first | rfl | trivial⟩
          case measure => simp [intOf]; omega
    · obtain rfl : k = n := by omega
      go_wp2_with fail
      refine bodyPost_ret (v := .bool true) (by simp [results, Try.results60, go_sem]) rfl ⟨by rw [HS.out], Below.refl _ _⟩

set_option maxRecDepth 100000 in
theorem arePowers_any (n cap : Nat) (ao : Option Addr) (f : Nat → Int) (m : Int) (w : World) (hn : n ≤ 9223372036854775807) (hc : Ints w ao n f) :
    Calls Try.prog 48 #[.slice ao n cap, .int .i64 m] w fun e w' => e = .returned (.bool (inB n f m 0 1000)) ∧ Below w.heap.size w w' := by
  have HC := Lib.hid hc
  clear hc
  go_enter Try.func48, Try.ntmps48
  go_wp2_with fail
  refine (within_any n cap ao f m 0 1000 _ hn HC.out).mono ?_
  rintro e w1 ⟨rfl, hb⟩
  go_wp2_with fail
  go_returns
  exact ⟨rfl, hb⟩
set_option maxRecDepth 100000 in
theorem arePhases_any (n cap : Nat) (ao : Option Addr) (f : Nat → Int) (m : Int) (w : World) (hn : n ≤ 9223372036854775807) (hc : Ints w ao n f) :
    Calls Try.prog 62 #[.slice ao n cap, .int .i64 m] w fun e w' => e = .returned (.bool (inB n f m (-1000000) 1000000)) ∧ Below w.heap.size w w' := by
  have HC := Lib.hid hc
  clear hc
  go_enter Try.func62, Try.ntmps62
  go_wp2_with fail
  refine (within_any n cap ao f m (-1000000) 1000000 _ hn HC.out).mono ?_
  rintro e w1 ⟨rfl, hb⟩
  go_wp2_with fail
  go_returns
  exact ⟨rfl, hb⟩
set_option maxRecDepth 100000 in
theorem size_any (x : Int) (w : World) (h0 : -4611686018427387904 ≤ x) (h1 : x ≤ 4611686018427387904) :
    Calls Try.prog 57 #[.int .i64 x] w fun e w' => e = .returned (.int .i64 (absI x)) ∧ Below w.heap.size w w' := by
  have w0 : wrap64 (-x) = -x := by simp only [wrap64]; omega
  by_cases h : x < -x
  · have HE : Hid (absI x = -x) := Lib.hid (by unfold absI; omega)
    rw [HE.out]
    go_enter Try.func57, Try.ntmps57
    go_wp2_with fail
    go_returns
    exact ⟨by first | rfl | go_num, Below.refl _ _⟩
  · have HE : Hid (absI x = x) := Lib.hid (by unfold absI; omega)
    rw [HE.out]
    go_enter Try.func57, Try.ntmps57
    go_wp2_with fail
    go_returns
    exact ⟨by first | rfl | go_num, Below.refl _ _⟩
set_option maxRecDepth 100000 in
theorem rAbs_any (x : Int) (w : World) (h0 : -4611686018427387904 ≤ x) (h1 : x ≤ 4611686018427387904) :
    Calls Try.prog 58 #[.int .i64 x] w fun e w' => e = .returned (.int .i64 (absI x)) ∧ Below w.heap.size w w' := by
  have w0 : wrap64 (-x) = -x := by simp only [wrap64]; omega
  by_cases h : x < -x
  · have HE : Hid (absI x = -x) := Lib.hid (by unfold absI; omega)
    rw [HE.out]
    go_enter Try.func58, Try.ntmps58
    go_wp2_with fail
    go_returns
    exact ⟨by first | rfl | go_num, Below.refl _ _⟩
  · have HE : Hid (absI x = x) := Lib.hid (by unfold absI; omega)
    rw [HE.out]
    go_enter Try.func58, Try.ntmps58
    go_wp2_with fail
    go_returns
    exact ⟨by first | rfl | go_num, Below.refl _ _⟩
set_option maxRecDepth 100000 in
theorem rWithin_any (lo x hi : Int) (w : World) :
    Calls Try.prog 49 #[.int .i64 lo, .int .i64 x, .int .i64 hi] w fun e w' => e = .returned (.bool (decide (lo ≤ x) && decide (x ≤ hi))) ∧ Below w.heap.size w w' := by
  by_cases h1 : lo ≤ x
  · by_cases h2 : x ≤ hi
    · rw [decide_eq_true h1, decide_eq_true h2]
      go_enter Try.func49, Try.ntmps49
      go_wp2_with fail
      go_returns
      exact ⟨rfl, Below.refl _ _⟩
    · rw [decide_eq_true h1, decide_eq_false h2]
      go_enter Try.func49, Try.ntmps49
      go_wp2_with fail
      go_returns
      exact ⟨rfl, Below.refl _ _⟩
  · rw [decide_eq_false h1]
    go_enter Try.func49, Try.ntmps49
    go_wp2_with fail
    go_returns
    exact ⟨rfl, Below.refl _ _⟩
end Go.Proofs.Ytdhlikedjephmaa
