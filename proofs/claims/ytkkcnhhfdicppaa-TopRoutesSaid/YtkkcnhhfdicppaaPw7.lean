import Derived.Test.YtkkcnhhfdicppaaPa7
namespace Go.Proofs.Ytkkcnhhfdicppaa
open Go.RowKit Lay
theorem range_xy {w : World} {b o : Nat} {x y : Int} (h : XyAt w b o x y) : w.rangeAt b o [.int .i64 x, .int .i64 y] := fun j v hv => by
  match j, hv with
  | 0, hv => cases hv; exact h.1
  | 1, hv => cases hv; exact h.2
theorem XyAt.keep {w w1 : World} {b o : Nat} {x y : Int} (h : XyAt w b o x y) (hb : Below w.heap.size w w1) : XyAt w1 b o x y := by
  exact ⟨(World.cell?_of_block (hb.block _ (World.block_lt_of_cell? _ _ h.1))).trans h.1, (World.cell?_of_block (hb.block _ (World.block_lt_of_cell? _ _ h.2))).trans h.2⟩
set_option maxRecDepth 100000 in
set_option maxHeartbeats 2000000 in
theorem follows_any (a b : Int) (w : World) (ha : -9223372036854775808 ≤ a ∧ a ≤ 9223372036854775807) (hb : -9223372036854775808 ≤ b ∧ b ≤ 9223372036854775807) :
    Calls Try.prog 85 #[.int .i64 a, .int .i64 b] w fun e w' => e = .returned (.bool (decide (a + 1 = b))) ∧ w' = w := by
  by_cases h1 : a < b
  case neg =>
    rw [decide_eq_false (show ¬ a + 1 = b by omega)]
    clear ha hb
    go_enter Try.func85, Try.ntmps85
    go_wp2_with fail
    refine bodyPost_ret (v := .bool false) (by first | (simp [results, Try.results85, go_sem, *]; done) | (simp [results, Try.results85, go_sem]; omega)) rfl ⟨rfl, rfl⟩
  by_cases h2 : a + 1 = b
  · have e1 : IntKind.i64.wrap (b - a) = 1 := by rw [IntKind.wrap_i64]; omega
    rw [decide_eq_true h2]
    clear ha hb h2
    go_enter Try.func85, Try.ntmps85
    go_wp2_with fail
    refine bodyPost_ret (v := .bool true) (by first | (simp [results, Try.results85, go_sem, *]; done) | (simp [results, Try.results85, go_sem]; omega)) rfl ⟨rfl, rfl⟩
  · have e1 : (IntKind.i64.wrap (b - a) == 1) = false := beq_eq_false_iff_ne.2 (by rw [IntKind.wrap_i64]; omega)
    have e2 : ¬ IntKind.i64.wrap (b - a) = 1 := by rw [IntKind.wrap_i64]; omega
    have e3 : ¬ wrap64 (b - a) = 1 := by unfold wrap64; omega
    rw [decide_eq_false h2]
    clear ha hb h2
    go_enter Try.func85, Try.ntmps85
    go_wp2_with fail
    refine bodyPost_ret (v := .bool false) (by first | (simp [results, Try.results85, go_sem, *]; done) | (simp [results, Try.results85, go_sem]; omega)) rfl ⟨rfl, rfl⟩
set_option maxRecDepth 100000 in
set_option maxHeartbeats 2000000 in
theorem fits_any (n cp : Nat) (ao : Option Addr) (w : World) (hn : n ≤ 9223372036854775807) :
    Calls Try.prog 82 #[.slice ao n cp] w fun e w' => e = .returned (.bool (decide (1 ≤ n ∧ n ≤ 1000))) ∧ w' = w := by
  by_cases h1 : 1 ≤ n
  case neg =>
    rw [decide_eq_false (show ¬ (1 ≤ n ∧ n ≤ 1000) by omega)]
    go_enter Try.func82, Try.ntmps82
    go_wp2_with fail
    refine bodyPost_ret (v := .bool false) (by first | (simp [results, Try.results82, go_sem, *]; done) | (simp [results, Try.results82, go_sem]; omega)) rfl ⟨rfl, rfl⟩
  by_cases h2 : n ≤ 1000
  case neg =>
    rw [decide_eq_false (show ¬ (1 ≤ n ∧ n ≤ 1000) by omega)]
    have h3 : (1000 : Int) < n := by omega
    go_enter Try.func82, Try.ntmps82
    go_wp2_with fail
    refine bodyPost_ret (v := .bool false) (by first | (simp [results, Try.results82, go_sem, *]; done) | (simp [results, Try.results82, go_sem]; omega)) rfl ⟨rfl, rfl⟩
  have h3 : (n : Int) ≤ 1000 := by omega
  rw [decide_eq_true (show 1 ≤ n ∧ n ≤ 1000 from ⟨h1, h2⟩)]
  go_enter Try.func82, Try.ntmps82
  go_wp2_with fail
  refine bodyPost_ret (v := .bool true) (by first | (simp [results, Try.results82, go_sem, *]; done) | (simp [results, Try.results82, go_sem]; omega)) rfl ⟨rfl, rfl⟩
/-- A number of 64 bits. -/
abbrev i64r (a : Int) : Prop := -9223372036854775808 ≤ a ∧ a ≤ 9223372036854775807
set_option maxRecDepth 100000 in
set_option maxHeartbeats 4000000 in
theorem wayTo_a (x y p q : Int) (w : World) (hx : i64r x) (hy : i64r y) (hp : i64r p) (hq : i64r q) (hh : y = q ∧ x + 1 = p) :
    Calls Try.prog 71 #[.agg #[.int .i64 x, .int .i64 y], .agg #[.int .i64 p, .int .i64 q]] w fun e w' => e = .returned (.int .i64 (wyS x y p q)) ∧ Below w.heap.size w w' := by
  have HX := Lib.hid (And.intro hx (And.intro hy (And.intro hp hq)))
  clear hx hy hp hq
  have HR : Hid (wyS x y p q = 0) := Lib.hid (by unfold wyS; rw [if_pos (by omega)])
  have q1 : (y == q) = true := beq_iff_eq.2 (by omega)
  have q2 : (x == p) = false := beq_eq_false_iff_ne.2 (by omega)
  have HF0 : Hid (decide (x + 1 = p) = true) := Lib.hid (decide_eq_true (by omega))
  clear hh
  go_enter Try.func71, Try.ntmps71
  go_wp2_with fail
  refine (follows_any x p _ HX.out.1 HX.out.2.2.1).mono ?_
  rw [HF0.out]
  rintro e_ w_ ⟨rfl, rfl⟩
  go_wp2_with fail
  refine bodyPost_ret (v := .int .i64 (0)) (by simp [results, Try.results71, go_sem]) rfl ⟨by rw [HR.out], by go_grown⟩
set_option maxRecDepth 100000 in
set_option maxHeartbeats 4000000 in
theorem wayTo_b (x y p q : Int) (w : World) (hx : i64r x) (hy : i64r y) (hp : i64r p) (hq : i64r q) (hh : y = q ∧ x = p) :
    Calls Try.prog 71 #[.agg #[.int .i64 x, .int .i64 y], .agg #[.int .i64 p, .int .i64 q]] w fun e w' => e = .returned (.int .i64 (wyS x y p q)) ∧ Below w.heap.size w w' := by
  have HX := Lib.hid (And.intro hx (And.intro hy (And.intro hp hq)))
  clear hx hy hp hq
  have HR : Hid (wyS x y p q = -1) := Lib.hid (by unfold wyS; rw [if_neg (by omega)]; rw [if_neg (by omega)]; rw [if_neg (by omega)]; rw [if_neg (by omega)])
  have q1 : (y == q) = true := beq_iff_eq.2 (by omega)
  have q2 : (x == p) = true := beq_iff_eq.2 (by omega)
  have HF0 : Hid (decide (x + 1 = p) = false) := Lib.hid (decide_eq_false (by omega))
  have HF1 : Hid (decide (y + 1 = q) = false) := Lib.hid (decide_eq_false (by omega))
  have HF2 : Hid (decide (p + 1 = x) = false) := Lib.hid (decide_eq_false (by omega))
  have HF3 : Hid (decide (q + 1 = y) = false) := Lib.hid (decide_eq_false (by omega))
  clear hh
  go_enter Try.func71, Try.ntmps71
  go_wp2_with fail
  refine (follows_any x p _ HX.out.1 HX.out.2.2.1).mono ?_
  rw [HF0.out]
  rintro e_ w_ ⟨rfl, rfl⟩
  go_wp2_with fail
  refine (follows_any y q _ HX.out.2.1 HX.out.2.2.2).mono ?_
  rw [HF1.out]
  rintro e_ w_ ⟨rfl, rfl⟩
  go_wp2_with fail
  refine (follows_any p x _ HX.out.2.2.1 HX.out.1).mono ?_
  rw [HF2.out]
  rintro e_ w_ ⟨rfl, rfl⟩
  go_wp2_with fail
  refine (follows_any q y _ HX.out.2.2.2 HX.out.2.1).mono ?_
  rw [HF3.out]
  rintro e_ w_ ⟨rfl, rfl⟩
  go_wp2_with fail
  refine bodyPost_ret (v := .int .i64 (-1)) (by simp [results, Try.results71, go_sem]) rfl ⟨by rw [HR.out], by go_grown⟩
set_option maxRecDepth 100000 in
set_option maxHeartbeats 4000000 in
theorem wayTo_c (x y p q : Int) (w : World) (hx : i64r x) (hy : i64r y) (hp : i64r p) (hq : i64r q) (hh : y = q ∧ p + 1 = x) :
    Calls Try.prog 71 #[.agg #[.int .i64 x, .int .i64 y], .agg #[.int .i64 p, .int .i64 q]] w fun e w' => e = .returned (.int .i64 (wyS x y p q)) ∧ Below w.heap.size w w' := by
  have HX := Lib.hid (And.intro hx (And.intro hy (And.intro hp hq)))
  clear hx hy hp hq
  have HR : Hid (wyS x y p q = 2) := Lib.hid (by unfold wyS; rw [if_neg (by omega)]; rw [if_neg (by omega)]; rw [if_pos (by omega)])
  have q1 : (y == q) = true := beq_iff_eq.2 (by omega)
  have q2 : (x == p) = false := beq_eq_false_iff_ne.2 (by omega)
  have HF0 : Hid (decide (x + 1 = p) = false) := Lib.hid (decide_eq_false (by omega))
  have HF1 : Hid (decide (p + 1 = x) = true) := Lib.hid (decide_eq_true (by omega))
  clear hh
  go_enter Try.func71, Try.ntmps71
  go_wp2_with fail
  refine (follows_any x p _ HX.out.1 HX.out.2.2.1).mono ?_
  rw [HF0.out]
  rintro e_ w_ ⟨rfl, rfl⟩
  go_wp2_with fail
  refine (follows_any p x _ HX.out.2.2.1 HX.out.1).mono ?_
  rw [HF1.out]
  rintro e_ w_ ⟨rfl, rfl⟩
  go_wp2_with fail
  refine bodyPost_ret (v := .int .i64 (2)) (by simp [results, Try.results71, go_sem]) rfl ⟨by rw [HR.out], by go_grown⟩
set_option maxRecDepth 100000 in
set_option maxHeartbeats 4000000 in
theorem wayTo_d (x y p q : Int) (w : World) (hx : i64r x) (hy : i64r y) (hp : i64r p) (hq : i64r q) (hh : y = q ∧ ¬ x + 1 = p ∧ ¬ x = p ∧ ¬ p + 1 = x) :
    Calls Try.prog 71 #[.agg #[.int .i64 x, .int .i64 y], .agg #[.int .i64 p, .int .i64 q]] w fun e w' => e = .returned (.int .i64 (wyS x y p q)) ∧ Below w.heap.size w w' := by
  have HX := Lib.hid (And.intro hx (And.intro hy (And.intro hp hq)))
  clear hx hy hp hq
  have HR : Hid (wyS x y p q = -1) := Lib.hid (by unfold wyS; rw [if_neg (by omega)]; rw [if_neg (by omega)]; rw [if_neg (by omega)]; rw [if_neg (by omega)])
  have q1 : (y == q) = true := beq_iff_eq.2 (by omega)
  have q2 : (x == p) = false := beq_eq_false_iff_ne.2 (by omega)
  have HF0 : Hid (decide (x + 1 = p) = false) := Lib.hid (decide_eq_false (by omega))
  have HF1 : Hid (decide (p + 1 = x) = false) := Lib.hid (decide_eq_false (by omega))
  clear hh
  go_enter Try.func71, Try.ntmps71
  go_wp2_with fail
  refine (follows_any x p _ HX.out.1 HX.out.2.2.1).mono ?_
  rw [HF0.out]
  rintro e_ w_ ⟨rfl, rfl⟩
  go_wp2_with fail
  refine (follows_any p x _ HX.out.2.2.1 HX.out.1).mono ?_
  rw [HF1.out]
  rintro e_ w_ ⟨rfl, rfl⟩
  go_wp2_with fail
  refine bodyPost_ret (v := .int .i64 (-1)) (by simp [results, Try.results71, go_sem]) rfl ⟨by rw [HR.out], by go_grown⟩
set_option maxRecDepth 100000 in
set_option maxHeartbeats 4000000 in
theorem wayTo_e (x y p q : Int) (w : World) (hx : i64r x) (hy : i64r y) (hp : i64r p) (hq : i64r q) (hh : x = p ∧ y + 1 = q) :
    Calls Try.prog 71 #[.agg #[.int .i64 x, .int .i64 y], .agg #[.int .i64 p, .int .i64 q]] w fun e w' => e = .returned (.int .i64 (wyS x y p q)) ∧ Below w.heap.size w w' := by
  have HX := Lib.hid (And.intro hx (And.intro hy (And.intro hp hq)))
  clear hx hy hp hq
  have HR : Hid (wyS x y p q = 1) := Lib.hid (by unfold wyS; rw [if_neg (by omega)]; rw [if_pos (by omega)])
  have q1 : (y == q) = false := beq_eq_false_iff_ne.2 (by omega)
  have q2 : (x == p) = true := beq_iff_eq.2 (by omega)
  have HF0 : Hid (decide (y + 1 = q) = true) := Lib.hid (decide_eq_true (by omega))
  clear hh
  go_enter Try.func71, Try.ntmps71
  go_wp2_with fail
  refine (follows_any y q _ HX.out.2.1 HX.out.2.2.2).mono ?_
  rw [HF0.out]
  rintro e_ w_ ⟨rfl, rfl⟩
  go_wp2_with fail
  refine bodyPost_ret (v := .int .i64 (1)) (by simp [results, Try.results71, go_sem]) rfl ⟨by rw [HR.out], by go_grown⟩
set_option maxRecDepth 100000 in
set_option maxHeartbeats 4000000 in
theorem wayTo_f (x y p q : Int) (w : World) (hx : i64r x) (hy : i64r y) (hp : i64r p) (hq : i64r q) (hh : x = p ∧ q + 1 = y) :
    Calls Try.prog 71 #[.agg #[.int .i64 x, .int .i64 y], .agg #[.int .i64 p, .int .i64 q]] w fun e w' => e = .returned (.int .i64 (wyS x y p q)) ∧ Below w.heap.size w w' := by
  have HX := Lib.hid (And.intro hx (And.intro hy (And.intro hp hq)))
  clear hx hy hp hq
  have HR : Hid (wyS x y p q = 3) := Lib.hid (by unfold wyS; rw [if_neg (by omega)]; rw [if_neg (by omega)]; rw [if_neg (by omega)]; rw [if_pos (by omega)])
  have q1 : (y == q) = false := beq_eq_false_iff_ne.2 (by omega)
  have q2 : (x == p) = true := beq_iff_eq.2 (by omega)
  have HF0 : Hid (decide (y + 1 = q) = false) := Lib.hid (decide_eq_false (by omega))
  have HF1 : Hid (decide (q + 1 = y) = true) := Lib.hid (decide_eq_true (by omega))
  clear hh
  go_enter Try.func71, Try.ntmps71
  go_wp2_with fail
  refine (follows_any y q _ HX.out.2.1 HX.out.2.2.2).mono ?_
  rw [HF0.out]
  rintro e_ w_ ⟨rfl, rfl⟩
  go_wp2_with fail
  refine (follows_any q y _ HX.out.2.2.2 HX.out.2.1).mono ?_
  rw [HF1.out]
  rintro e_ w_ ⟨rfl, rfl⟩
  go_wp2_with fail
  refine bodyPost_ret (v := .int .i64 (3)) (by simp [results, Try.results71, go_sem]) rfl ⟨by rw [HR.out], by go_grown⟩
set_option maxRecDepth 100000 in
set_option maxHeartbeats 4000000 in
theorem wayTo_g (x y p q : Int) (w : World) (hx : i64r x) (hy : i64r y) (hp : i64r p) (hq : i64r q) (hh : x = p ∧ ¬ y = q ∧ ¬ y + 1 = q ∧ ¬ q + 1 = y) :
    Calls Try.prog 71 #[.agg #[.int .i64 x, .int .i64 y], .agg #[.int .i64 p, .int .i64 q]] w fun e w' => e = .returned (.int .i64 (wyS x y p q)) ∧ Below w.heap.size w w' := by
  have HX := Lib.hid (And.intro hx (And.intro hy (And.intro hp hq)))
  clear hx hy hp hq
  have HR : Hid (wyS x y p q = -1) := Lib.hid (by unfold wyS; rw [if_neg (by omega)]; rw [if_neg (by omega)]; rw [if_neg (by omega)]; rw [if_neg (by omega)])
  have q1 : (y == q) = false := beq_eq_false_iff_ne.2 (by omega)
  have q2 : (x == p) = true := beq_iff_eq.2 (by omega)
  have HF0 : Hid (decide (y + 1 = q) = false) := Lib.hid (decide_eq_false (by omega))
  have HF1 : Hid (decide (q + 1 = y) = false) := Lib.hid (decide_eq_false (by omega))
  clear hh
  go_enter Try.func71, Try.ntmps71
  go_wp2_with fail
  refine (follows_any y q _ HX.out.2.1 HX.out.2.2.2).mono ?_
  rw [HF0.out]
  rintro e_ w_ ⟨rfl, rfl⟩
  go_wp2_with fail
  refine (follows_any q y _ HX.out.2.2.2 HX.out.2.1).mono ?_
  rw [HF1.out]
  rintro e_ w_ ⟨rfl, rfl⟩
  go_wp2_with fail
  refine bodyPost_ret (v := .int .i64 (-1)) (by simp [results, Try.results71, go_sem]) rfl ⟨by rw [HR.out], by go_grown⟩
set_option maxRecDepth 100000 in
set_option maxHeartbeats 4000000 in
theorem wayTo_h (x y p q : Int) (w : World) (hx : i64r x) (hy : i64r y) (hp : i64r p) (hq : i64r q) (hh : ¬ y = q ∧ ¬ x = p) :
    Calls Try.prog 71 #[.agg #[.int .i64 x, .int .i64 y], .agg #[.int .i64 p, .int .i64 q]] w fun e w' => e = .returned (.int .i64 (wyS x y p q)) ∧ Below w.heap.size w w' := by
  have HX := Lib.hid (And.intro hx (And.intro hy (And.intro hp hq)))
  clear hx hy hp hq
  have HR : Hid (wyS x y p q = -1) := Lib.hid (by unfold wyS; rw [if_neg (by omega)]; rw [if_neg (by omega)]; rw [if_neg (by omega)]; rw [if_neg (by omega)])
  have q1 : (y == q) = false := beq_eq_false_iff_ne.2 (by omega)
  have q2 : (x == p) = false := beq_eq_false_iff_ne.2 (by omega)
  clear hh
  go_enter Try.func71, Try.ntmps71
  go_wp2_with fail
  refine bodyPost_ret (v := .int .i64 (-1)) (by simp [results, Try.results71, go_sem]) rfl ⟨by rw [HR.out], by go_grown⟩

theorem wayTo_any (x y p q : Int) (w : World) (hx : i64r x) (hy : i64r y) (hp : i64r p) (hq : i64r q) :
    Calls Try.prog 71 #[.agg #[.int .i64 x, .int .i64 y], .agg #[.int .i64 p, .int .i64 q]] w fun e w' => e = .returned (.int .i64 (wyS x y p q)) ∧ Below w.heap.size w w' := by

  by_cases a1 : y = q
  · by_cases b1 : x + 1 = p
    · exact wayTo_a x y p q w hx hy hp hq ⟨a1, b1⟩
    by_cases b2 : x = p
    · exact wayTo_b x y p q w hx hy hp hq ⟨a1, b2⟩
    by_cases b3 : p + 1 = x
    · exact wayTo_c x y p q w hx hy hp hq ⟨a1, b3⟩
    exact wayTo_d x y p q w hx hy hp hq ⟨a1, b1, b2, b3⟩
  by_cases a2 : x = p
  · by_cases b1 : y + 1 = q
    · exact wayTo_e x y p q w hx hy hp hq ⟨a2, b1⟩
    by_cases b2 : q + 1 = y
    · exact wayTo_f x y p q w hx hy hp hq ⟨a2, b2⟩
    exact wayTo_g x y p q w hx hy hp hq ⟨a2, a1, b1, b2⟩
  exact wayTo_h x y p q w hx hy hp hq ⟨a1, a2⟩
end Go.Proofs.Ytkkcnhhfdicppaa
