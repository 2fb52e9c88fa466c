import Derived.Test.YtgbnpnenejgnnaaEat
import Derived.Test.YtgbnpnenejgnnaaEu
import Derived.Test.YtgbnpnenejgnnaaEb
namespace Encl
def okTo (f : Nat → Rc) : Nat → Bool
  | 0 => true
  | k + 1 => okTo f k && okR (f k)
theorem okTo_stop {f : Nat → Rc} {k : Nat} (h : okR (f k) = false) : ∀ m, k < m → okTo f m = false := by
  intro m
  induction m with
  | zero => intro h; omega
  | succ m ih =>
    intro hk
    simp only [okTo]
    by_cases e : k = m
    · subst e; rw [h]; simp
    · rw [ih (by omega)]; rfl
end Encl
namespace Go.Proofs.Ytgbnpnenejgnnaa
open Go.RowKit Encl
/-- Rectangles lie one behind the other from the head of block g on. -/
def Rcs (w : World) (g n : Nat) (f : Nat → Rc) : Prop := ∀ i, i < n → w.cell? ⟨g, i * 4, none⟩ = some (.int .i64 (f i).re.lo) ∧ w.cell? ⟨g, i * 4 + 1, none⟩ = some (.int .i64 (f i).re.hi) ∧ w.cell? ⟨g, i * 4 + 2, none⟩ = some (.int .i64 (f i).im.lo) ∧ w.cell? ⟨g, i * 4 + 3, none⟩ = some (.int .i64 (f i).im.hi)
set_option maxRecDepth 100000 in
set_option maxHeartbeats 4000000 in
theorem valid_any (g n cap : Nat) (f : Nat → Rc) (w : World) (hn : n ≤ 1000) (hc : Rcs w g n f) :
    Calls Try.prog 69 #[.slice (some ⟨g, 0, none⟩) n cap] w fun e w' => e = .returned (.bool (okTo f n)) ∧ Below w.heap.size w w' := by
  have HC := Lib.hid hc
  clear hc
  go_enter Try.func69, Try.ntmps69
  go_wp2_with fail
  go_loopw [7] (fun iv wr => ∃ k : Nat, iv = .int .i64 k ∧ k ≤ n ∧ Hid (okTo f k = true) ∧ Below w.heap.size w wr) (fun iv _ => n - (intOf iv).toNat)
  case atStart => exact ⟨0, rfl, by omega, Lib.hid rfl, Below.refl _ _⟩
  case round =>
    obtain ⟨k, rfl, hk, HS, hbel⟩ := hrel
    have DB := Lib.hid hbel
    clear hbel
    by_cases hlt : k < n
    · have hlt' : (k : Int) < (n : Int) := by omega
      obtain ⟨p, q, s, t, hf⟩ : ∃ p q s t, f k = ⟨⟨p, q⟩, ⟨s, t⟩⟩ := ⟨_, _, _, _, rfl⟩
      have HF := Lib.hid hf
      obtain ⟨m0, m1, m2, m3⟩ := HC.out k hlt
      have hB : g < w.heap.size := World.block_lt_of_cell? w _ m0
      rw [hf] at m0 m1 m2 m3
      have g0 : wr.cell? ⟨g, k * 4, none⟩ = some (.int .i64 p) := (DB.out.cell (p := ⟨g, k * 4, none⟩) hB).trans m0
      have g1 : wr.cell? ⟨g, k * 4 + 1, none⟩ = some (.int .i64 q) := (DB.out.cell (p := ⟨g, k * 4 + 1, none⟩) hB).trans m1
      have g2 : wr.cell? ⟨g, k * 4 + 2, none⟩ = some (.int .i64 s) := (DB.out.cell (p := ⟨g, k * 4 + 2, none⟩) hB).trans m2
      have g3 : wr.cell? ⟨g, k * 4 + 3, none⟩ = some (.int .i64 t) := (DB.out.cell (p := ⟨g, k * 4 + 3, none⟩) hB).trans m3
      clear hf m0 m1 m2 m3
      obtain ⟨b1, hb1⟩ : ∃ b, okS ⟨p, q⟩ = b := ⟨_, rfl⟩
      obtain ⟨b2, hb2⟩ : ∃ b, okS ⟨s, t⟩ = b := ⟨_, rfl⟩
      have HB1 := Lib.hid hb1
      have HB2 := Lib.hid hb2
      clear hb1 hb2
      go_wp2_with fail
      refine (eValid_any p q _).mono ?_
      rw [HB1.out]
      rintro e w1 ⟨rfl, hb⟩
      have D1 := Lib.hid ((DB.out.alloc DB.out.size (Obj.cells #[.int .i64 p, .int .i64 q, .int .i64 s, .int .i64 t] 25)).trans (hb.mono (by have := DB.out.size; simp; omega)))
      have s1 : wr.heap.size < w1.heap.size := by have hs := hb.size; (try simp at hs); omega
      obtain ⟨k1, k2⟩ := bcl hb
      have c2 := (k1 wr.heap.size 2 (by simp)).trans (by go_cell : _ = some (.int .i64 s))
      have c3 := (k1 wr.heap.size 3 (by simp)).trans (by go_cell : _ = some (.int .i64 t))
      clear hb k1 k2 g0 g1 g2 g3
      cases b1 with
      | false =>
        have HZ : Hid (okTo f n = false) := Lib.hid (okTo_stop (by rw [HF.out]; unfold okR; rw [HB1.out]; rfl) n hlt)
        go_wp2_with fail
        go_returns
        exact ⟨by rw [HZ.out]; rfl, D1.out⟩
      | true =>
        go_wp2_with fail
        refine (eValid_any s t _).mono ?_
        rw [HB2.out]
        rintro e w2 ⟨rfl, hb⟩
        have D2 := Lib.hid (D1.out.trans (hb.mono D1.out.size))
        clear hb c2 c3
        cases b2 with
        | false =>
          have HZ : Hid (okTo f n = false) := Lib.hid (okTo_stop (by rw [HF.out]; unfold okR; rw [HB1.out, HB2.out]; rfl) n hlt)
          go_wp2_with fail
          go_returns
          exact ⟨by rw [HZ.out]; rfl, D2.out⟩
        | true =>
          have HZ : Hid (okTo f (k + 1) = true) := Lib.hid (by simp only [okTo]; rw [HS.out, HF.out]; unfold okR; rw [HB1.out, HB2.out]; rfl)
          go_wp2_with fail
          go_roundw
          case rel => exact ⟨k + 1, by go_num, by omega, HZ, D2.out⟩
          case measure => simp [intOf]; omega
    · obtain rfl : k = n := by omega
      go_wp2_with fail
      go_returns
      exact ⟨by rw [HS.out]; rfl, DB.out⟩
end Go.Proofs.Ytgbnpnenejgnnaa

namespace Encl
def two (x y : Rc) (i : Nat) : Rc := if i = 0 then x else y
/-- What an operation makes of two rectangles that may not be valid. -/
def onR2 (F : Rc → Rc → Out Rc) (x y : Rc) : Out Rc := if okTo (two x y) 2 = true then F x y else .bad 50
theorem two_ok {x y : Rc} (h : okTo (two x y) 2 = true) : okS x.re = true ∧ okS x.im = true ∧ okS y.re = true ∧ okS y.im = true := by
  have h' : (true && okR x && okR y) = true := h
  simp only [Bool.true_and, Bool.and_eq_true, okR_iff] at h'
  exact ⟨h'.1.1, h'.1.2, h'.2.1, h'.2.2⟩
theorem two_iff (x y : Rc) : okTo (two x y) 2 = (okR x && okR y) := by
  show (true && okR x && okR y) = _
  rw [Bool.true_and]
end Encl
namespace Go.Proofs.Ytgbnpnenejgnnaa
open Go.RowKit Encl
theorem Rcs.of2 {w : World} {g : Nat} {F : Nat → Rc} (a0 : w.cell? ⟨g, 0, none⟩ = some (.int .i64 (F 0).re.lo)) (a1 : w.cell? ⟨g, 1, none⟩ = some (.int .i64 (F 0).re.hi)) (a2 : w.cell? ⟨g, 2, none⟩ = some (.int .i64 (F 0).im.lo)) (a3 : w.cell? ⟨g, 3, none⟩ = some (.int .i64 (F 0).im.hi))
    (b0 : w.cell? ⟨g, 4, none⟩ = some (.int .i64 (F 1).re.lo)) (b1 : w.cell? ⟨g, 5, none⟩ = some (.int .i64 (F 1).re.hi)) (b2 : w.cell? ⟨g, 6, none⟩ = some (.int .i64 (F 1).im.lo)) (b3 : w.cell? ⟨g, 7, none⟩ = some (.int .i64 (F 1).im.hi)) : Rcs w g 2 F := by
  intro i hi
  have hi' : i = 0 ∨ i = 1 := by omega
  rcases hi' with rfl | rfl
  · exact ⟨a0, a1, a2, a3⟩
  · exact ⟨b0, b1, b2, b3⟩
end Go.Proofs.Ytgbnpnenejgnnaa

namespace Encl
def inS (x y : Sp) : Bool := decide (y.lo ≤ x.lo) && decide (x.hi ≤ y.hi)
def meetS (x y : Sp) : Sp := ⟨max x.lo y.lo, min x.hi y.hi⟩
def meetR (x y : Rc) : Rc := ⟨meetS x.re y.re, meetS x.im y.im⟩
end Encl
namespace Go.Proofs.Ytgbnpnenejgnnaa
open Go.RowKit Encl

set_option maxHeartbeats 1000000 in
theorem rValid_any (a b : Int) (w : World) :
    Calls Try.prog 23 #[.agg #[.int .i64 a, .int .i64 b]] w fun e w' => e = .returned (.bool (okS ⟨a, b⟩)) ∧ Below w.heap.size w w' := by
  by_cases h1 : a ≤ b
  · by_cases h2 : -1099511627776 ≤ a
    · by_cases h3 : b ≤ 1099511627776
      · have HE : Hid (okS ⟨a, b⟩ = true) := Lib.hid (by rw [okS_iff]; exact ⟨h2, h1, h3⟩)
        rw [HE.out]
        go_enter Try.func23, Try.ntmps23
        go_wp2_with fail
        go_returns
        exact ⟨rfl, by go_grown⟩
      · have HE : Hid (okS ⟨a, b⟩ = false) := Lib.hid (by rw [← Bool.not_eq_true, okS_iff]; simp only; omega)
        rw [HE.out]
        go_enter Try.func23, Try.ntmps23
        go_wp2_with fail
        go_returns
        exact ⟨rfl, by go_grown⟩
    · have HE : Hid (okS ⟨a, b⟩ = false) := Lib.hid (by rw [← Bool.not_eq_true, okS_iff]; simp only; omega)
      rw [HE.out]
      go_enter Try.func23, Try.ntmps23
      go_wp2_with fail
      go_returns
      exact ⟨rfl, by go_grown⟩
  · have HE : Hid (okS ⟨a, b⟩ = false) := Lib.hid (by rw [← Bool.not_eq_true, okS_iff]; simp only; omega)
    rw [HE.out]
    go_enter Try.func23, Try.ntmps23
    go_wp2_with fail
    go_returns
    exact ⟨rfl, by go_grown⟩

set_option maxHeartbeats 1000000 in
theorem rValidRect_any (a b c d : Int) (w : World) :
    Calls Try.prog 71 #[.agg #[.int .i64 a, .int .i64 b, .int .i64 c, .int .i64 d]] w fun e w' => e = .returned (.bool (okR ⟨⟨a, b⟩, ⟨c, d⟩⟩)) ∧ Below w.heap.size w w' := by
  obtain ⟨b1, hb1⟩ : ∃ x, okS ⟨a, b⟩ = x := ⟨_, rfl⟩
  obtain ⟨b2, hb2⟩ : ∃ x, okS ⟨c, d⟩ = x := ⟨_, rfl⟩
  have HE : Hid (okR ⟨⟨a, b⟩, ⟨c, d⟩⟩ = (b1 && b2)) := Lib.hid (by unfold okR; rw [hb1, hb2])
  rw [HE.out]
  have H1 := Lib.hid hb1
  have H2 := Lib.hid hb2
  clear hb1 hb2
  go_enter Try.func71, Try.ntmps71
  go_wp2_with fail
  refine (rValid_any a b _).mono ?_
  rw [H1.out]
  rintro e w1 ⟨rfl, hb⟩
  have D1 : Below w.heap.size w w1 := Below.trans (by go_grown) (hb.mono (by first | omega | (simp; done) | (simp; omega)))
  obtain ⟨k1, k2⟩ := bcl hb
  have c2 := (k1 w.heap.size 2 (by simp)).trans (by go_cell : _ = some (.int .i64 c))
  have c3 := (k1 w.heap.size 3 (by simp)).trans (by go_cell : _ = some (.int .i64 d))
  clear hb k1 k2
  cases b1 with
  | false =>
    go_wp2_with fail
    go_returns
    exact ⟨rfl, D1⟩
  | true =>
    go_wp2_with fail
    refine (rValid_any c d _).mono ?_
    rw [H2.out]
    rintro e w2 ⟨rfl, hb⟩
    have D2 := D1.trans (hb.mono D1.size)
    clear hb c2 c3
    go_wp2_with fail
    go_returns
    exact ⟨by cases b2 <;> rfl, D2⟩

set_option maxHeartbeats 1000000 in
theorem rIn_any (a b c d : Int) (w : World) :
    Calls Try.prog 72 #[.agg #[.int .i64 a, .int .i64 b], .agg #[.int .i64 c, .int .i64 d]] w fun e w' => e = .returned (.bool (inS ⟨a, b⟩ ⟨c, d⟩)) ∧ Below w.heap.size w w' := by
  by_cases h1 : c ≤ a
  · by_cases h2 : b ≤ d
    · have HE : Hid (inS ⟨a, b⟩ ⟨c, d⟩ = true) := Lib.hid (by simp [inS, h1, h2])
      rw [HE.out]
      go_enter Try.func72, Try.ntmps72
      go_wp2_with fail
      go_returns
      exact ⟨rfl, by go_grown⟩
    · have HE : Hid (inS ⟨a, b⟩ ⟨c, d⟩ = false) := Lib.hid (by simp [inS, h2])
      have h2' : decide (b ≤ d) = false := decide_eq_false h2
      rw [HE.out]
      go_enter Try.func72, Try.ntmps72
      go_wp2_with fail
      go_returns
      exact ⟨rfl, by go_grown⟩
  · have HE : Hid (inS ⟨a, b⟩ ⟨c, d⟩ = false) := Lib.hid (by simp [inS, h1])
    have h1' : decide (c ≤ a) = false := decide_eq_false h1
    rw [HE.out]
    go_enter Try.func72, Try.ntmps72
    go_wp2_with fail
    go_returns
    exact ⟨rfl, by go_grown⟩

set_option maxHeartbeats 1000000 in
theorem meetSpans_any (a b c d : Int) (w : World) :
    Calls Try.prog 120 #[.agg #[.int .i64 a, .int .i64 b], .agg #[.int .i64 c, .int .i64 d]] w fun e w' => e = retS (meetS ⟨a, b⟩ ⟨c, d⟩) ∧ Below w.heap.size w w' := by
  obtain ⟨p, hp⟩ : ∃ p, max a c = p := ⟨_, rfl⟩
  obtain ⟨q, hq⟩ : ∃ q, min b d = q := ⟨_, rfl⟩
  have HE : Hid (meetS ⟨a, b⟩ ⟨c, d⟩ = ⟨p, q⟩) := Lib.hid (by unfold meetS; rw [hp, hq])
  rw [HE.out]
  clear HE
  by_cases h1 : a < c
  · have hp' : p = c := by omega
    subst hp'
    clear hp
    by_cases h2 : b ≤ d
    · have hq' : q = b := by omega
      subst hq'
      clear hq
      go_enter Try.func120, Try.ntmps120
      go_wp2_with fail
      all_goals refine bodyPost_ret (v := .agg #[.int .i64 p, .int .i64 q]) (by simp [results, Try.results120, go_sem]) rfl ⟨rfl, by go_grown⟩
    · have hq' : q = d := by omega
      subst hq'
      clear hq
      have h2' : q < b := by omega
      go_enter Try.func120, Try.ntmps120
      go_wp2_with fail
      all_goals refine bodyPost_ret (v := .agg #[.int .i64 p, .int .i64 q]) (by simp [results, Try.results120, go_sem]) rfl ⟨rfl, by go_grown⟩
  · have hp' : p = a := by omega
    subst hp'
    clear hp
    have h1' : c ≤ p := by omega
    by_cases h2 : b ≤ d
    · have hq' : q = b := by omega
      subst hq'
      clear hq
      go_enter Try.func120, Try.ntmps120
      go_wp2_with fail
      all_goals refine bodyPost_ret (v := .agg #[.int .i64 p, .int .i64 q]) (by simp [results, Try.results120, go_sem]) rfl ⟨rfl, by go_grown⟩
    · have hq' : q = d := by omega
      subst hq'
      clear hq
      have h2' : q < b := by omega
      go_enter Try.func120, Try.ntmps120
      go_wp2_with fail
      all_goals refine bodyPost_ret (v := .agg #[.int .i64 p, .int .i64 q]) (by simp [results, Try.results120, go_sem]) rfl ⟨rfl, by go_grown⟩

set_option maxHeartbeats 1000000 in
theorem rCommon_any (a b c d : Int) (w : World) :
    Calls Try.prog 73 #[.agg #[.int .i64 a, .int .i64 b], .agg #[.int .i64 c, .int .i64 d]] w fun e w' => e = retS (meetS ⟨a, b⟩ ⟨c, d⟩) ∧ Below w.heap.size w w' := by
  obtain ⟨p, hp⟩ : ∃ p, max a c = p := ⟨_, rfl⟩
  obtain ⟨q, hq⟩ : ∃ q, min b d = q := ⟨_, rfl⟩
  have HE : Hid (meetS ⟨a, b⟩ ⟨c, d⟩ = ⟨p, q⟩) := Lib.hid (by unfold meetS; rw [hp, hq])
  rw [HE.out]
  clear HE
  by_cases h1 : a < c
  · have hp' : p = c := by omega
    subst hp'
    clear hp
    by_cases h2 : b ≤ d
    · have hq' : q = b := by omega
      subst hq'
      clear hq
      go_enter Try.func73, Try.ntmps73
      go_wp2_with fail
      all_goals refine bodyPost_ret (v := .agg #[.int .i64 p, .int .i64 q]) (by simp [results, Try.results73, go_sem]) rfl ⟨rfl, by go_grown⟩
    · have hq' : q = d := by omega
      subst hq'
      clear hq
      have h2' : q < b := by omega
      go_enter Try.func73, Try.ntmps73
      go_wp2_with fail
      all_goals refine bodyPost_ret (v := .agg #[.int .i64 p, .int .i64 q]) (by simp [results, Try.results73, go_sem]) rfl ⟨rfl, by go_grown⟩
  · have hp' : p = a := by omega
    subst hp'
    clear hp
    have h1' : c ≤ p := by omega
    by_cases h2 : b ≤ d
    · have hq' : q = b := by omega
      subst hq'
      clear hq
      go_enter Try.func73, Try.ntmps73
      go_wp2_with fail
      all_goals refine bodyPost_ret (v := .agg #[.int .i64 p, .int .i64 q]) (by simp [results, Try.results73, go_sem]) rfl ⟨rfl, by go_grown⟩
    · have hq' : q = d := by omega
      subst hq'
      clear hq
      have h2' : q < b := by omega
      go_enter Try.func73, Try.ntmps73
      go_wp2_with fail
      all_goals refine bodyPost_ret (v := .agg #[.int .i64 p, .int .i64 q]) (by simp [results, Try.results73, go_sem]) rfl ⟨rfl, by go_grown⟩

end Go.Proofs.Ytgbnpnenejgnnaa
