import Derived.Test.YtfilofnkiocbeaaBj8
import Derived.Test.YtfilofnkiocbeaaBm8
namespace Ben
/-- May a switch that is stuck so be turned, or not? -/
def mayB (x : Int) (t : Bool) : Bool := x == 0 || (x == 2) == t
/-- Do the first k switches agree with what is stuck? -/
def agB (s : Nat → Bool) (f : Nat → Int) : Nat → Bool
  | 0 => true
  | k + 1 => agB s f k && mayB (f k) (s k)
theorem agB_stop {s : Nat → Bool} {f : Nat → Int} {k : Nat} (h : mayB (f k) (s k) = false) : ∀ m, k < m → agB s f m = false := by
  intro m
  induction m with
  | zero => intro h; omega
  | succ m ih =>
    intro hk
    simp only [agB]
    by_cases e : k = m
    · subst e; rw [h]; simp
    · rw [ih (by omega)]; rfl
theorem agB_iff {s : Nat → Bool} {f : Nat → Int} {m : Nat} : agB s f m = true ↔ ∀ k, k < m → mayB (f k) (s k) = true := by
  induction m with
  | zero => simp [agB]
  | succ m ih =>
    simp only [agB, Bool.and_eq_true, ih]
    constructor
    · rintro ⟨h1, h2⟩ k hk
      by_cases e : k = m
      · subst e; exact h2
      · exact h1 k (by omega)
    · intro h
      exact ⟨fun k hk => h k (by omega), h m (by omega)⟩
/-- Does a list say how switches are stuck? -/
def stB (f : Nat → Int) : Nat → Bool
  | 0 => true
  | k + 1 => stB f k && decide (0 ≤ f k ∧ f k ≤ 2)
theorem stB_stop {f : Nat → Int} {k : Nat} (h : ¬ (0 ≤ f k ∧ f k ≤ 2)) : ∀ m, k < m → stB f m = false := by
  intro m
  induction m with
  | zero => intro h; omega
  | succ m ih =>
    intro hk
    simp only [stB]
    by_cases e : k = m
    · subst e; rw [decide_eq_false h]; simp
    · rw [ih (by omega)]; rfl
theorem stB_iff {f : Nat → Int} {m : Nat} : stB f m = true ↔ ∀ k, k < m → 0 ≤ f k ∧ f k ≤ 2 := by
  induction m with
  | zero => simp [stB]
  | succ m ih =>
    simp only [stB, Bool.and_eq_true, ih, decide_eq_true_eq]
    constructor
    · rintro ⟨h1, h2⟩ k hk
      by_cases e : k = m
      · subst e; exact h2
      · exact h1 k (by omega)
    · intro h
      exact ⟨fun k hk => h k (by omega), h m (by omega)⟩
end Ben
namespace Go.Proofs.Ytfilofnkiocbeaa
open Go.RowKit Ben
/-- The error of a number of ports and a list of stuck switches. -/
def csE (n : Int) (m : Nat) (f : Nat → Int) : Int := if ckE n m = 0 then (if stB f m = true then 0 else 80) else ckE n m
set_option maxRecDepth 100000 in
theorem may_any (x : Int) (t : Bool) (w : World) : Calls Try.prog 61 #[.int .i64 x, .bool t] w fun e w' => e = .returned (.bool (mayB x t)) ∧ w = w' := by
  by_cases h0 : x = 0
  · subst h0
    have h : mayB 0 t = true := rfl
    rw [h]
    go_enter Try.func61, Try.ntmps61
    go_wp2_with fail
    go_ret
    exact ⟨rfl, rfl⟩
  have q0 : (x == 0) = false := beq_eq_false_iff_ne.2 h0
  by_cases h2 : x = 2
  · subst h2
    cases t
    all_goals
      go_enter Try.func61, Try.ntmps61
      go_wp2_with fail
      go_ret
      exact ⟨rfl, rfl⟩
  have q2 : (x == 2) = false := beq_eq_false_iff_ne.2 h2
  have h : mayB x t = !t := by unfold mayB; rw [q0, q2]; cases t <;> rfl
  rw [h]
  clear h h0 h2
  cases t
  all_goals
    go_enter Try.func61, Try.ntmps61
    go_wp2_with fail
    go_ret
    exact ⟨rfl, rfl⟩
set_option maxRecDepth 100000 in
theorem only_any (n cap b o : Nat) (f : Nat → Int) (w : World) (hn : 1 ≤ n) (hc : ∀ i, i < n → w.cell? ⟨b, o + i, none⟩ = some (.int .i64 (f i))) :
    Calls Try.prog 69 #[.slice (some ⟨b, o, none⟩) n cap] w fun e w' => e = .returned (.slice (some ⟨w.heap.size, 0, none⟩) 1 1) ∧ w' = w.alloc (.cells #[.bool (f 0 == 1)] 4) := by
  have g0 := hc 0 (by omega)
  rw [Nat.add_zero] at g0
  have hn' : 0 < n := by omega
  clear hc
  go_enter Try.func69, Try.ntmps69
  go_wp2_with fail
  go_returns
  exact ⟨rfl, rfl⟩
set_option maxRecDepth 100000 in
set_option maxHeartbeats 4000000 in
theorem agree_any (n cap m dap : Nat) (ao bo : Option Addr) (s : Nat → Bool) (f : Nat → Int) (w : World) (hn : n ≤ 80) (hnm : n ≤ m) (hm : m ≤ 80) (hc : Bools w ao m s) (hd : Ints w bo n f) :
    Calls Try.prog 70 #[.slice ao m cap, .slice bo n dap] w fun e w' => e = .returned (.bool (agB s f n)) ∧ w = w' := by
  have HC := Lib.hid hc
  have HD := Lib.hid hd
  clear hc hd
  go_enter Try.func70, Try.ntmps70
  go_wp2_with fail
  go_loopw [9] (fun iv wr => ∃ (z : Int) (k : Nat), iv = .int .i64 z ∧ z = k ∧ k ≤ n ∧ Hid (agB s f k = true) ∧ w = wr) (fun iv _ => n - (intOf iv).toNat)
  case atStart => exact ⟨0, 0, rfl, rfl, by omega, Lib.hid rfl, rfl⟩
  case round =>
    obtain ⟨z, k, rfl, hz, hk, HK, rfl⟩ := hrel
    by_cases hlt : k < n
    · have hlt' : z < (n : Int) := by omega
      subst hz
      have k00 : (0 : Int) ≤ (k : Int) := by omega
      have k80 : (k : Int) ≤ 80 := by omega
      have hkm : (k : Int) < (m : Int) := by omega
      obtain ⟨b, o, rfl, hcell⟩ := HC.out (by omega)
      obtain ⟨b', o', rfl, hcell'⟩ := HD.out (by omega)
      have c0 := hcell k (by omega)
      have d0 := hcell' k hlt
      obtain ⟨x, hx⟩ : ∃ x, f k = x := ⟨_, rfl⟩
      obtain ⟨t, ht⟩ : ∃ t, s k = t := ⟨_, rfl⟩
      rw [hx] at d0
      rw [ht] at c0
      have HX := Lib.hid (And.intro hx ht)
      clear hcell hcell' hx ht
      by_cases h0 : x = 0
      · subst h0
        have HK2 : Hid (agB s f (k + 1) = true) := Lib.hid (by simp only [agB]; rw [HK.out, HX.out.1]; rfl)
        go_wp2_with fail
        go_roundw
        case rel => exact ⟨(k : Int) + 1, k + 1, by first | rfl | (rw [show wrap64 ((k : Int) + 1) = (k : Int) + 1 by simp only [wrap64]; omega]), by omega, by omega, HK2, by first | rfl | trivial⟩
        case measure => first | (simp [intOf]; done) | (simp [intOf]; omega)
      have q0 : (x != 0) = true := bne_iff_ne.2 h0
      by_cases h2 : x = 2
      · subst h2
        cases t with
        | true =>
          have HK2 : Hid (agB s f (k + 1) = true) := Lib.hid (by simp only [agB]; rw [HK.out, HX.out.1, HX.out.2]; rfl)
          clear h0 q0
          go_wp2_with fail
          go_roundw
          case rel => exact ⟨(k : Int) + 1, k + 1, by first | rfl | (rw [show wrap64 ((k : Int) + 1) = (k : Int) + 1 by simp only [wrap64]; omega]), by omega, by omega, HK2, by first | rfl | trivial⟩
          case measure => first | (simp [intOf]; done) | (simp [intOf]; omega)
        | false =>
          have HF : Hid (agB s f n = false) := Lib.hid (agB_stop (k := k) (by rw [HX.out.1, HX.out.2]; rfl) n hlt)
          clear h0 q0
          go_wp2_with fail
          go_ret
          exact ⟨by rw [HF.out] <;> rfl, rfl⟩
      have q2 : (x == 2) = false := beq_eq_false_iff_ne.2 h2
      have q0' : (x == 0) = false := beq_eq_false_iff_ne.2 h0
      have HM : Hid (mayB (f k) (s k) = !t) := Lib.hid (by rw [HX.out.1, HX.out.2]; unfold mayB; rw [q0', q2]; cases t <;> rfl)
      clear h0 h2 q0'
      cases t with
      | false =>
        have HK2 : Hid (agB s f (k + 1) = true) := Lib.hid (by simp only [agB]; rw [HK.out, HM.out]; rfl)
        go_wp2_with fail
        go_roundw
        case rel => exact ⟨(k : Int) + 1, k + 1, by first | rfl | (rw [show wrap64 ((k : Int) + 1) = (k : Int) + 1 by simp only [wrap64]; omega]), by omega, by omega, HK2, by first | rfl | trivial⟩
        case measure => first | (simp [intOf]; done) | (simp [intOf]; omega)
      | true =>
        have HF : Hid (agB s f n = false) := Lib.hid (agB_stop (k := k) (by rw [HM.out]; rfl) n hlt)
        go_wp2_with fail
        go_ret
        exact ⟨by rw [HF.out] <;> rfl, rfl⟩
    · have hzn : ¬ z < (n : Int) := by omega
      obtain rfl : k = n := by omega
      subst hz
      go_wp2_with fail
      go_ret
      exact ⟨by rw [HK.out] <;> rfl, rfl⟩
set_option maxRecDepth 100000 in
set_option maxHeartbeats 4000000 in
theorem checkStuck_any (n : Int) (m cap : Nat) (ao : Option Addr) (f : Nat → Int) (w : World) (hm : m ≤ 80) (hc : Ints w ao m f) :
    Calls Try.prog 58 #[.int .i64 n, .slice ao m cap] w fun e w' => e = .returned (.int .i64 (csE n m f)) ∧ w = w' := by
  have HC := Lib.hid hc
  clear hc
  by_cases he : ckE n m = 0
  · have E80 : Hid (stB f m = false → csE n m f = 80) := Lib.hid (fun h => by unfold csE; rw [if_pos he, h]; rfl)
    have E0 : Hid (stB f m = true → csE n m f = 0) := Lib.hid (fun h => by unfold csE; rw [if_pos he, h]; rfl)
    have HE := Lib.hid he
    clear he
    go_enter Try.func58, Try.ntmps58
    go_wp2_with fail
    refine (checkI_any n ao m cap _ (by omega)).mono ?_
    rw [HE.out]
    rintro e w' ⟨rfl, rfl⟩
    go_wp2_with fail
    go_loopw [16] (fun iv wr => ∃ (z : Int) (k : Nat), iv = .int .i64 z ∧ z = k ∧ k ≤ m ∧ Hid (stB f k = true) ∧ w = wr) (fun iv _ => m - (intOf iv).toNat)
    case atStart => exact ⟨0, 0, rfl, rfl, by omega, Lib.hid rfl, rfl⟩
    case round =>
      obtain ⟨z, k, rfl, hz, hk, HK, rfl⟩ := hrel
      by_cases hlt : k < m
      · have hlt' : z < (m : Int) := by omega
        subst hz
        have k00 : (0 : Int) ≤ (k : Int) := by omega
        have k80 : (k : Int) ≤ 80 := by omega
        obtain ⟨b, o, rfl, hcell⟩ := HC.out (by omega)
        have c0 := hcell k hlt
        obtain ⟨x, hx⟩ : ∃ x, f k = x := ⟨_, rfl⟩
        rw [hx] at c0
        have HX := Lib.hid hx
        clear hcell hx
        by_cases h1 : x < 0
        · have HF : Hid (stB f m = false) := Lib.hid (stB_stop (k := k) (by rw [HX.out]; omega) m hlt)
          go_wp2_with fail
          go_ret
          exact ⟨by rw [E80.out HF.out] <;> rfl, rfl⟩
        by_cases h2 : 2 < x
        · have HF : Hid (stB f m = false) := Lib.hid (stB_stop (k := k) (by rw [HX.out]; omega) m hlt)
          have h3 : 3 ≤ x := by omega
          go_wp2_with fail
          go_ret
          exact ⟨by rw [E80.out HF.out] <;> rfl, rfl⟩
        have HK2 : Hid (stB f (k + 1) = true) := Lib.hid (by simp only [stB]; rw [HK.out, decide_eq_true (by rw [HX.out]; omega)]; rfl)
        have h3 : ¬ 3 ≤ x := by omega
        go_wp2_with fail
        go_roundw
        case rel => exact ⟨(k : Int) + 1, k + 1, by first | rfl | (rw [show wrap64 ((k : Int) + 1) = (k : Int) + 1 by simp only [wrap64]; omega]), by omega, by omega, HK2, by first | rfl | trivial⟩
        case measure => first | (simp [intOf]; done) | (simp [intOf]; omega)
      · have hzn : ¬ z < (m : Int) := by omega
        obtain rfl : k = m := by omega
        subst hz
        go_wp2_with fail
        go_ret
        exact ⟨by rw [E0.out HK.out] <;> rfl, rfl⟩
  · have e1 : csE n m f = ckE n m := by unfold csE; rw [if_neg he]
    have h1 : (ckE n m != 0) = true := bne_iff_ne.2 he
    rw [e1]
    clear e1 he
    go_enter Try.func58, Try.ntmps58
    go_wp2_with fail
    refine (checkI_any n ao m cap _ (by omega)).mono ?_
    rintro e w' ⟨rfl, rfl⟩
    go_wp2_with fail
    go_ret
    exact ⟨rfl, rfl⟩
set_option maxRecDepth 100000 in
set_option maxHeartbeats 4000000 in
theorem isStuck_any (q : Nat) (hq : q ≤ 3) (m cap : Nat) (ao : Option Addr) (f : Nat → Int) (w : World) (hm : m ≤ 80) (hc : Ints w ao m f) :
    Calls Try.prog 44 #[.int .i64 (sz q : Nat), .slice ao m cap] w fun e w' => e = .returned (.bool (stB f m && decide (m = cn q))) ∧ w = w' := by
  have HC := Lib.hid hc
  clear hc
  · skip
    go_enter Try.func44, Try.ntmps44
    go_wp2_with fail
    go_loopw [5] (fun iv wr => ∃ (z : Int) (k : Nat), iv = .int .i64 z ∧ z = k ∧ k ≤ m ∧ Hid (stB f k = true) ∧ w = wr) (fun iv _ => m - (intOf iv).toNat)
    case atStart => exact ⟨0, 0, rfl, rfl, by omega, Lib.hid rfl, rfl⟩
    case round =>
      obtain ⟨z, k, rfl, hz, hk, HK, rfl⟩ := hrel
      by_cases hlt : k < m
      · have hlt' : z < (m : Int) := by omega
        subst hz
        have k00 : (0 : Int) ≤ (k : Int) := by omega
        have k80 : (k : Int) ≤ 80 := by omega
        obtain ⟨b, o, rfl, hcell⟩ := HC.out (by omega)
        have c0 := hcell k hlt
        obtain ⟨x, hx⟩ : ∃ x, f k = x := ⟨_, rfl⟩
        rw [hx] at c0
        have HX := Lib.hid hx
        clear hcell hx
        by_cases h1 : x < 0
        · have HF : Hid (stB f m = false) := Lib.hid (stB_stop (k := k) (by rw [HX.out]; omega) m hlt)
          go_wp2_with fail
          go_ret
          exact ⟨by rw [HF.out] <;> rfl, rfl⟩
        by_cases h2 : 2 < x
        · have HF : Hid (stB f m = false) := Lib.hid (stB_stop (k := k) (by rw [HX.out]; omega) m hlt)
          have h3 : 3 ≤ x := by omega
          go_wp2_with fail
          go_ret
          exact ⟨by rw [HF.out] <;> rfl, rfl⟩
        have HK2 : Hid (stB f (k + 1) = true) := Lib.hid (by simp only [stB]; rw [HK.out, decide_eq_true (by rw [HX.out]; omega)]; rfl)
        have h3 : ¬ 3 ≤ x := by omega
        go_wp2_with fail
        go_roundw
        case rel => exact ⟨(k : Int) + 1, k + 1, by first | rfl | (rw [show wrap64 ((k : Int) + 1) = (k : Int) + 1 by simp only [wrap64]; omega]), by omega, by omega, HK2, by first | rfl | trivial⟩
        case measure => first | (simp [intOf]; done) | (simp [intOf]; omega)
      · have hzn : ¬ z < (m : Int) := by omega
        obtain rfl : k = m := by omega
        subst hz
        have HD : Hid (((k : Int) == ((cn q : Nat) : Int)) = decide (k = cn q)) := Lib.hid (by
          by_cases e : k = cn q
          · rw [e, decide_eq_true rfl]; simp
          · rw [decide_eq_false e]; exact beq_eq_false_iff_ne.2 (by omega))
        go_wp2_with fail
        refine (switches_any q hq _).mono ?_
        rintro e w' ⟨rfl, rfl⟩
        go_wp2_with fail
        go_ret
        exact ⟨by rw [HK.out, HD.out] <;> rfl, rfl⟩
end Go.Proofs.Ytfilofnkiocbeaa
