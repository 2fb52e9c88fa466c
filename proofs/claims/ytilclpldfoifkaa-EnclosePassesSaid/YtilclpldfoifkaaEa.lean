import Derived.Test.YtilclpldfoifkaaEt
import Derived.Test.YtilclpldfoifkaaChecked
import Derived.WalkKit
import Derived.WalkSpells
import Derived.WalkLawsBesides
import Derived.Handy
import Derived.Lib.Hide
import Derived.BigQuiet
import Derived.Deep.QuietTactic
import Derived.Outline
import Derived.OwnWalk
import Derived.Laws.OwnMore
import Derived.IntWalk
import Derived.Deep.RegionHeld3
import Derived.Deep.RegionHeld2
namespace Go.Proofs.Ytilclpldfoifkaa
open Go.RowKit Encl

theorem bcl {W w1 : World} (hb : Below W.heap.size W w1) : (∀ b o, b < W.heap.size → w1.cell? ⟨b, o, none⟩ = W.cell? ⟨b, o, none⟩) ∧ (∀ b o, b < W.heap.size → w1.frozen? ⟨b, o, none⟩ = W.frozen? ⟨b, o, none⟩) :=
  ⟨fun b o h => hb.cell (p := ⟨b, o, none⟩) h, fun b o h => hb.frozen (p := ⟨b, o, none⟩) h⟩
/-- How a slot is filled. -/
theorem act_all : (∀ (a : Act) (v : Value), a.put none v = a) ∧ (∀ (a : Act) (d : Tmp) (v : Value), a.put (some d) v = { a with tmps := a.tmps.setIfInBounds d v }) ∧ (∀ {α : Type} (l : List α) (i : Nat) (v : α), l.toArray.setIfInBounds i v = (l.set i v).toArray) ∧ (∀ {α : Type} (x : α) (l : List α) (v : α), (x :: l).set 0 v = v :: l) ∧ (∀ {α : Type} (x : α) (l : List α) (n : Nat) (v : α), (x :: l).set (n + 1) v = x :: l.set n v) :=
  ⟨fun _ _ => rfl, fun _ _ _ => rfl, fun l i v => List.setIfInBounds_toArray l i v, fun _ _ _ => rfl, fun _ _ _ _ => rfl⟩
/-- A new block, above all that stood at the start. -/
theorem bal {a w : World} (h : Below a.heap.size a w) (o : Obj) : Below a.heap.size a (w.alloc o) := h.alloc h.size o
theorem first_drewN {B : Nat} {a w : World} (h : Below B a w) {n : Nat} : Below B a (w.drewN n) := ⟨h.os, h.tape, h.output, h.size, h.block⟩
/-- The panic with an error of the document. -/
def pan (k : Int) : Ending := .panicked [{ v := .iface 26 (.int .i64 k), recovered := false }]
def retS (s : Sp) : Ending := .returned (.agg #[.int .i64 s.lo, .int .i64 s.hi])
def retR (x : Rc) : Ending := .returned (.agg #[.int .i64 x.re.lo, .int .i64 x.re.hi, .int .i64 x.im.lo, .int .i64 x.im.hi])
def IsS (e : Ending) : Out Sp → Prop
  | .ok s => e = retS s
  | .bad k => e = pan k
def IsR (e : Ending) : Out Rc → Prop
  | .ok s => e = retR s
  | .bad k => e = pan k

set_option maxHeartbeats 1000000 in
theorem eValid_any (a b : Int) (w : World) :
    Calls Try.prog 19 #[.agg #[.int .i64 a, .int .i64 b]] w fun e w' => e = .returned (.bool (okS ⟨a, b⟩)) ∧ Below w.heap.size w w' := by
  by_cases h1 : -1099511627776 ≤ a
  · by_cases h2 : a ≤ b
    · by_cases h3 : b ≤ 1099511627776
      · have HE : Hid (okS ⟨a, b⟩ = true) := Lib.hid (by rw [okS_iff]; exact ⟨h1, h2, h3⟩)
        rw [HE.out]
        go_enter Try.func19, Try.ntmps19
        go_wp2_with fail
        go_returns
        exact ⟨rfl, by go_grown⟩
      · have HE : Hid (okS ⟨a, b⟩ = false) := Lib.hid (by rw [← Bool.not_eq_true, okS_iff]; simp only; omega)
        rw [HE.out]
        go_enter Try.func19, Try.ntmps19
        go_wp2_with fail
        go_returns
        exact ⟨rfl, by go_grown⟩
    · have HE : Hid (okS ⟨a, b⟩ = false) := Lib.hid (by rw [← Bool.not_eq_true, okS_iff]; simp only; omega)
      rw [HE.out]
      go_enter Try.func19, Try.ntmps19
      go_wp2_with fail
      go_returns
      exact ⟨rfl, by go_grown⟩
  · have HE : Hid (okS ⟨a, b⟩ = false) := Lib.hid (by rw [← Bool.not_eq_true, okS_iff]; simp only; omega)
    rw [HE.out]
    go_enter Try.func19, Try.ntmps19
    go_wp2_with fail
    go_returns
    exact ⟨rfl, by go_grown⟩

set_option maxHeartbeats 1000000 in
theorem negated_any (a b : Int) (w : World) (ha : -4611686018427387904 ≤ a ∧ a ≤ 4611686018427387904) (hb : -4611686018427387904 ≤ b ∧ b ≤ 4611686018427387904) :
    Calls Try.prog 119 #[.agg #[.int .i64 a, .int .i64 b]] w fun e w' => e = retS ⟨-b, -a⟩ ∧ Below w.heap.size w w' := by
  obtain ⟨ha1, ha2⟩ := ha
  obtain ⟨hb1, hb2⟩ := hb
  go_enter Try.func119, Try.ntmps119
  go_wp2_with fail
  refine bodyPost_ret (v := .agg #[.int .i64 (-b), .int .i64 (-a)]) (by simp [results, Try.results119, go_sem]) rfl ⟨rfl, by go_grown⟩

set_option maxHeartbeats 1000000 in
theorem inRange_any (a b : Int) (w : World) :
    Calls Try.prog 120 #[.agg #[.int .i64 a, .int .i64 b]] w fun e w' => IsS e (inR ⟨a, b⟩) ∧ Below w.heap.size w w' := by
  by_cases h : okS ⟨a, b⟩ = true
  · have HE := Lib.hid h
    have HI := Lib.hid (inR_ok h)
    clear h
    rw [HI.out]
    go_enter Try.func120, Try.ntmps120
    go_wp2_with fail
    refine (eValid_any _ _ _).mono ?_
    rintro e w1 ⟨rfl, hb⟩
    rw [HE.out]
    have D1 : Below w.heap.size w w1 := Below.trans (by go_grown) (hb.mono (by first | omega | (simp; done) | (simp; omega)))
    have s1 : w.heap.size + 1 < w1.heap.size := by have hs := hb.size; (try simp at hs); omega
    obtain ⟨k1, k2⟩ := bcl hb
    have c0 := (k1 w.heap.size 0 (by simp; omega)).trans (by go_cell : _ = some (.int .i64 a))
    have c1 := (k1 w.heap.size 1 (by simp; omega)).trans (by go_cell : _ = some (.int .i64 b))
    have d0 := (k1 (w.heap.size + 1) 0 (by simp)).trans (by go_cell : _ = some (.int .i64 0))
    have d1 := (k1 (w.heap.size + 1) 1 (by simp)).trans (by go_cell : _ = some (.int .i64 0))
    have f0 := (k2 (w.heap.size + 1) 0 (by simp)).trans (by go_cell : _ = false)
    have f1 := (k2 (w.heap.size + 1) 1 (by simp)).trans (by go_cell : _ = false)
    clear hb k1 k2
    go_wp2_with fail
    refine bodyPost_ret (v := .agg #[.int .i64 a, .int .i64 b]) (by simp [results, Try.results120, go_sem, *]) rfl ⟨rfl, by go_grown⟩
  · have HI := Lib.hid (inR_bad h)
    have HE : Hid (okS ⟨a, b⟩ = false) := Lib.hid (by simpa using h)
    clear h
    rw [HI.out]
    go_enter Try.func120, Try.ntmps120
    go_wp2_with fail
    refine (eValid_any _ _ _).mono ?_
    rintro e w1 ⟨rfl, hb⟩
    rw [HE.out]
    have D1 : Below w.heap.size w w1 := Below.trans (by go_grown) (hb.mono (by first | omega | (simp; done) | (simp; omega)))
    clear hb
    go_wp2_with fail
    exact ⟨rfl, rfl, by go_grown⟩
end Go.Proofs.Ytilclpldfoifkaa
