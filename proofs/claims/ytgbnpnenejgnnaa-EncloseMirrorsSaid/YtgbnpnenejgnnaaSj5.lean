import Derived.Test.YtgbnpnenejgnnaaMp5
import Derived.Test.YtgbnpnenejgnnaaEl
import Derived.Test.YtgbnpnenejgnnaaEn1
import Derived.Test.YtgbnpnenejgnnaaEat
import Derived.Deep.DeepCutAuto
namespace Go.Proofs.Ytgbnpnenejgnnaa
open Go.RowKit Encl
/-- What a formula that makes a two-port leaves. -/
def IsO (e : Ending) : Out Po → Prop
  | .ok x => e = .returned (.agg #[.int .i64 (x.a.re.lo), .int .i64 (x.a.re.hi), .int .i64 (x.a.im.lo), .int .i64 (x.a.im.hi), .int .i64 (x.b.re.lo), .int .i64 (x.b.re.hi), .int .i64 (x.b.im.lo), .int .i64 (x.b.im.hi), .int .i64 (x.c.re.lo), .int .i64 (x.c.re.hi), .int .i64 (x.c.im.lo), .int .i64 (x.c.im.hi), .int .i64 (x.d.re.lo), .int .i64 (x.d.re.hi), .int .i64 (x.d.im.lo), .int .i64 (x.d.im.hi)])
  | .bad k => e = .panicked [{ v := .iface 26 (.int .i64 k), recovered := false }]
def putAt (cs : Array Value) : Nat → List Value → Array Value
  | _, [] => cs
  | o, v :: r => putAt (cs.setIfInBounds o v) (o + 1) r
theorem block_setCells {b : Nat} {t : TypeId} : ∀ (vs : List Value) (o : Nat) (cs : Array Value) (w : World), w.heap[b]? = some (.cells cs t (0, 0)) → (w.setCells b o vs).heap[b]? = some (.cells (putAt cs o vs) t (0, 0))
  | [], _, _, _, h => h
  | v :: r, o, cs, w, h => block_setCells r (o + 1) _ (w.setCell ⟨b, o, none⟩ v) (heap_setCell_same w b o cs t v h)
theorem there_mid {w : World} {b : Nat} {cs : Array Value} {t : TypeId} (h : w.heap[b]? = some (.cells cs t (0, 0))) (o n : Nat) (hn : o + n ≤ cs.size) : w.there b o n := fun j hj => by
  refine ⟨?_, ?_⟩
  · rw [cell_of_row _ _ _ _ _ (0, 0) h, Array.getElem?_eq_getElem (by omega)]; rfl
  · unfold World.frozen?; simp [h]
theorem four_at {j : Nat} (h : j < 4) : j = 0 ∨ j = 1 ∨ j = 2 ∨ j = 3 := by omega

set_option maxRecDepth 100000 in
set_option maxHeartbeats 8000000 in
theorem joined_any (a0 b0 c0 d0 a1 b1 c1 d1 a2 b2 c2 d2 a3 b3 c3 d3 e0 f0 g0 h0 e1 f1 g1 h1 e2 f2 g2 h2 e3 f3 g3 h3 : Int) (w : World) (hp : okP ⟨⟨a0, b0⟩, ⟨c0, d0⟩⟩ ⟨⟨a1, b1⟩, ⟨c1, d1⟩⟩ ⟨⟨a2, b2⟩, ⟨c2, d2⟩⟩ ⟨⟨a3, b3⟩, ⟨c3, d3⟩⟩ = true) (hq : okP ⟨⟨e0, f0⟩, ⟨g0, h0⟩⟩ ⟨⟨e1, f1⟩, ⟨g1, h1⟩⟩ ⟨⟨e2, f2⟩, ⟨g2, h2⟩⟩ ⟨⟨e3, f3⟩, ⟨g3, h3⟩⟩ = true) :
    Calls Try.prog 96 #[.agg #[.int .i64 a0, .int .i64 b0, .int .i64 c0, .int .i64 d0, .int .i64 a1, .int .i64 b1, .int .i64 c1, .int .i64 d1, .int .i64 a2, .int .i64 b2, .int .i64 c2, .int .i64 d2, .int .i64 a3, .int .i64 b3, .int .i64 c3, .int .i64 d3], .agg #[.int .i64 e0, .int .i64 f0, .int .i64 g0, .int .i64 h0, .int .i64 e1, .int .i64 f1, .int .i64 g1, .int .i64 h1, .int .i64 e2, .int .i64 f2, .int .i64 g2, .int .i64 h2, .int .i64 e3, .int .i64 f3, .int .i64 g3, .int .i64 h3]] w fun e w' => IsO e (starR ⟨⟨⟨a0, b0⟩, ⟨c0, d0⟩⟩, ⟨⟨a1, b1⟩, ⟨c1, d1⟩⟩, ⟨⟨a2, b2⟩, ⟨c2, d2⟩⟩, ⟨⟨a3, b3⟩, ⟨c3, d3⟩⟩⟩ ⟨⟨⟨e0, f0⟩, ⟨g0, h0⟩⟩, ⟨⟨e1, f1⟩, ⟨g1, h1⟩⟩, ⟨⟨e2, f2⟩, ⟨g2, h2⟩⟩, ⟨⟨e3, f3⟩, ⟨g3, h3⟩⟩⟩) ∧ Below w.heap.size w w' := by
  obtain ⟨SP, hsp⟩ : ∃ SP, starR ⟨⟨⟨a0, b0⟩, ⟨c0, d0⟩⟩, ⟨⟨a1, b1⟩, ⟨c1, d1⟩⟩, ⟨⟨a2, b2⟩, ⟨c2, d2⟩⟩, ⟨⟨a3, b3⟩, ⟨c3, d3⟩⟩⟩ ⟨⟨⟨e0, f0⟩, ⟨g0, h0⟩⟩, ⟨⟨e1, f1⟩, ⟨g1, h1⟩⟩, ⟨⟨e2, f2⟩, ⟨g2, h2⟩⟩, ⟨⟨e3, f3⟩, ⟨g3, h3⟩⟩⟩ = SP := ⟨_, rfl⟩
  have HSP := Lib.hid hsp
  rw [hsp]
  clear hsp
  have h0k : Hid (okS ⟨0, 0⟩ = true) := Lib.hid (by decide)
  have h1k : Hid (okS ⟨1073741824, 1073741824⟩ = true) := Lib.hid (by decide)
  have HP0 := Lib.hid ((okR_iff _).1 (okP_iff.1 hp).1)
  have HQ0 := Lib.hid ((okR_iff _).1 (okP_iff.1 hq).1)
  have HP1 := Lib.hid ((okR_iff _).1 (okP_iff.1 hp).2.1)
  have HQ1 := Lib.hid ((okR_iff _).1 (okP_iff.1 hq).2.1)
  have HP2 := Lib.hid ((okR_iff _).1 (okP_iff.1 hp).2.2.1)
  have HQ2 := Lib.hid ((okR_iff _).1 (okP_iff.1 hq).2.2.1)
  have HP3 := Lib.hid ((okR_iff _).1 (okP_iff.1 hp).2.2.2)
  have HQ3 := Lib.hid ((okR_iff _).1 (okP_iff.1 hq).2.2.2)
  clear hp hq
  go_enter Try.func96, Try.ntmps96
  go_wp2_with fail
  have hb0 : Below w.heap.size w (((w.alloc (.cells #[.int .i64 a0, .int .i64 b0, .int .i64 c0, .int .i64 d0, .int .i64 a1, .int .i64 b1, .int .i64 c1, .int .i64 d1, .int .i64 a2, .int .i64 b2, .int .i64 c2, .int .i64 d2, .int .i64 a3, .int .i64 b3, .int .i64 c3, .int .i64 d3] 47)).alloc (.cells #[.int .i64 e0, .int .i64 f0, .int .i64 g0, .int .i64 h0, .int .i64 e1, .int .i64 f1, .int .i64 g1, .int .i64 h1, .int .i64 e2, .int .i64 f2, .int .i64 g2, .int .i64 h2, .int .i64 e3, .int .i64 f3, .int .i64 g3, .int .i64 h3] 47)).alloc (.cells #[.int .i64 0, .int .i64 0, .int .i64 0, .int .i64 0, .int .i64 0, .int .i64 0, .int .i64 0, .int .i64 0, .int .i64 0, .int .i64 0, .int .i64 0, .int .i64 0, .int .i64 0, .int .i64 0, .int .i64 0, .int .i64 0] 49)) := by go_grown
  have bP : (((w.alloc (.cells #[.int .i64 a0, .int .i64 b0, .int .i64 c0, .int .i64 d0, .int .i64 a1, .int .i64 b1, .int .i64 c1, .int .i64 d1, .int .i64 a2, .int .i64 b2, .int .i64 c2, .int .i64 d2, .int .i64 a3, .int .i64 b3, .int .i64 c3, .int .i64 d3] 47)).alloc (.cells #[.int .i64 e0, .int .i64 f0, .int .i64 g0, .int .i64 h0, .int .i64 e1, .int .i64 f1, .int .i64 g1, .int .i64 h1, .int .i64 e2, .int .i64 f2, .int .i64 g2, .int .i64 h2, .int .i64 e3, .int .i64 f3, .int .i64 g3, .int .i64 h3] 47)).alloc (.cells #[.int .i64 0, .int .i64 0, .int .i64 0, .int .i64 0, .int .i64 0, .int .i64 0, .int .i64 0, .int .i64 0, .int .i64 0, .int .i64 0, .int .i64 0, .int .i64 0, .int .i64 0, .int .i64 0, .int .i64 0, .int .i64 0] 49)).heap[w.heap.size]? = some (.cells #[.int .i64 a0, .int .i64 b0, .int .i64 c0, .int .i64 d0, .int .i64 a1, .int .i64 b1, .int .i64 c1, .int .i64 d1, .int .i64 a2, .int .i64 b2, .int .i64 c2, .int .i64 d2, .int .i64 a3, .int .i64 b3, .int .i64 c3, .int .i64 d3] 47 (0, 0)) := (Below.heap_alloc _ _ _ (by first | omega | (simp; done) | (simp; omega))).trans ((Below.heap_alloc _ _ _ (by first | omega | (simp; done) | (simp; omega))).trans (heap_alloc_new w _))
  have bQ : (((w.alloc (.cells #[.int .i64 a0, .int .i64 b0, .int .i64 c0, .int .i64 d0, .int .i64 a1, .int .i64 b1, .int .i64 c1, .int .i64 d1, .int .i64 a2, .int .i64 b2, .int .i64 c2, .int .i64 d2, .int .i64 a3, .int .i64 b3, .int .i64 c3, .int .i64 d3] 47)).alloc (.cells #[.int .i64 e0, .int .i64 f0, .int .i64 g0, .int .i64 h0, .int .i64 e1, .int .i64 f1, .int .i64 g1, .int .i64 h1, .int .i64 e2, .int .i64 f2, .int .i64 g2, .int .i64 h2, .int .i64 e3, .int .i64 f3, .int .i64 g3, .int .i64 h3] 47)).alloc (.cells #[.int .i64 0, .int .i64 0, .int .i64 0, .int .i64 0, .int .i64 0, .int .i64 0, .int .i64 0, .int .i64 0, .int .i64 0, .int .i64 0, .int .i64 0, .int .i64 0, .int .i64 0, .int .i64 0, .int .i64 0, .int .i64 0] 49)).heap[w.heap.size + 1]? = some (.cells #[.int .i64 e0, .int .i64 f0, .int .i64 g0, .int .i64 h0, .int .i64 e1, .int .i64 f1, .int .i64 g1, .int .i64 h1, .int .i64 e2, .int .i64 f2, .int .i64 g2, .int .i64 h2, .int .i64 e3, .int .i64 f3, .int .i64 g3, .int .i64 h3] 47 (0, 0)) := (Below.heap_alloc _ _ _ (by first | omega | (simp; done) | (simp; omega))).trans (by
    have h := heap_alloc_new (w.alloc (.cells #[.int .i64 a0, .int .i64 b0, .int .i64 c0, .int .i64 d0, .int .i64 a1, .int .i64 b1, .int .i64 c1, .int .i64 d1, .int .i64 a2, .int .i64 b2, .int .i64 c2, .int .i64 d2, .int .i64 a3, .int .i64 b3, .int .i64 c3, .int .i64 d3] 47)) (.cells #[.int .i64 e0, .int .i64 f0, .int .i64 g0, .int .i64 h0, .int .i64 e1, .int .i64 f1, .int .i64 g1, .int .i64 h1, .int .i64 e2, .int .i64 f2, .int .i64 g2, .int .i64 h2, .int .i64 e3, .int .i64 f3, .int .i64 g3, .int .i64 h3] 47)
    rwa [World.size_alloc] at h)
  have bT : (((w.alloc (.cells #[.int .i64 a0, .int .i64 b0, .int .i64 c0, .int .i64 d0, .int .i64 a1, .int .i64 b1, .int .i64 c1, .int .i64 d1, .int .i64 a2, .int .i64 b2, .int .i64 c2, .int .i64 d2, .int .i64 a3, .int .i64 b3, .int .i64 c3, .int .i64 d3] 47)).alloc (.cells #[.int .i64 e0, .int .i64 f0, .int .i64 g0, .int .i64 h0, .int .i64 e1, .int .i64 f1, .int .i64 g1, .int .i64 h1, .int .i64 e2, .int .i64 f2, .int .i64 g2, .int .i64 h2, .int .i64 e3, .int .i64 f3, .int .i64 g3, .int .i64 h3] 47)).alloc (.cells #[.int .i64 0, .int .i64 0, .int .i64 0, .int .i64 0, .int .i64 0, .int .i64 0, .int .i64 0, .int .i64 0, .int .i64 0, .int .i64 0, .int .i64 0, .int .i64 0, .int .i64 0, .int .i64 0, .int .i64 0, .int .i64 0] 49)).heap[w.heap.size + 1 + 1]? = some (.cells #[.int .i64 0, .int .i64 0, .int .i64 0, .int .i64 0, .int .i64 0, .int .i64 0, .int .i64 0, .int .i64 0, .int .i64 0, .int .i64 0, .int .i64 0, .int .i64 0, .int .i64 0, .int .i64 0, .int .i64 0, .int .i64 0] 49 (0, 0)) := by
    have h := heap_alloc_new ((w.alloc (.cells #[.int .i64 a0, .int .i64 b0, .int .i64 c0, .int .i64 d0, .int .i64 a1, .int .i64 b1, .int .i64 c1, .int .i64 d1, .int .i64 a2, .int .i64 b2, .int .i64 c2, .int .i64 d2, .int .i64 a3, .int .i64 b3, .int .i64 c3, .int .i64 d3] 47)).alloc (.cells #[.int .i64 e0, .int .i64 f0, .int .i64 g0, .int .i64 h0, .int .i64 e1, .int .i64 f1, .int .i64 g1, .int .i64 h1, .int .i64 e2, .int .i64 f2, .int .i64 g2, .int .i64 h2, .int .i64 e3, .int .i64 f3, .int .i64 g3, .int .i64 h3] 47)) (.cells #[.int .i64 0, .int .i64 0, .int .i64 0, .int .i64 0, .int .i64 0, .int .i64 0, .int .i64 0, .int .i64 0, .int .i64 0, .int .i64 0, .int .i64 0, .int .i64 0, .int .i64 0, .int .i64 0, .int .i64 0, .int .i64 0] 49)
    rwa [World.size_alloc, World.size_alloc] at h
  have hsz : w.heap.size + 1 + 1 < (((w.alloc (.cells #[.int .i64 a0, .int .i64 b0, .int .i64 c0, .int .i64 d0, .int .i64 a1, .int .i64 b1, .int .i64 c1, .int .i64 d1, .int .i64 a2, .int .i64 b2, .int .i64 c2, .int .i64 d2, .int .i64 a3, .int .i64 b3, .int .i64 c3, .int .i64 d3] 47)).alloc (.cells #[.int .i64 e0, .int .i64 f0, .int .i64 g0, .int .i64 h0, .int .i64 e1, .int .i64 f1, .int .i64 g1, .int .i64 h1, .int .i64 e2, .int .i64 f2, .int .i64 g2, .int .i64 h2, .int .i64 e3, .int .i64 f3, .int .i64 g3, .int .i64 h3] 47)).alloc (.cells #[.int .i64 0, .int .i64 0, .int .i64 0, .int .i64 0, .int .i64 0, .int .i64 0, .int .i64 0, .int .i64 0, .int .i64 0, .int .i64 0, .int .i64 0, .int .i64 0, .int .i64 0, .int .i64 0, .int .i64 0, .int .i64 0] 49)).heap.size := by simp
  generalize (((w.alloc (.cells #[.int .i64 a0, .int .i64 b0, .int .i64 c0, .int .i64 d0, .int .i64 a1, .int .i64 b1, .int .i64 c1, .int .i64 d1, .int .i64 a2, .int .i64 b2, .int .i64 c2, .int .i64 d2, .int .i64 a3, .int .i64 b3, .int .i64 c3, .int .i64 d3] 47)).alloc (.cells #[.int .i64 e0, .int .i64 f0, .int .i64 g0, .int .i64 h0, .int .i64 e1, .int .i64 f1, .int .i64 g1, .int .i64 h1, .int .i64 e2, .int .i64 f2, .int .i64 g2, .int .i64 h2, .int .i64 e3, .int .i64 f3, .int .i64 g3, .int .i64 h3] 47)).alloc (.cells #[.int .i64 0, .int .i64 0, .int .i64 0, .int .i64 0, .int .i64 0, .int .i64 0, .int .i64 0, .int .i64 0, .int .i64 0, .int .i64 0, .int .i64 0, .int .i64 0, .int .i64 0, .int .i64 0, .int .i64 0, .int .i64 0] 49)) = W at *
  obtain ⟨PB, hPB⟩ : ∃ PB, PB = w.heap.size := ⟨_, rfl⟩
  have lP : w.heap.size < W.heap.size := by omega
  have lQ : w.heap.size + 1 < W.heap.size := by omega
  have G0 : Hid (∀ w' : World, Below W.heap.size W w' → w'.heap[w.heap.size]? = some (.cells #[.int .i64 a0, .int .i64 b0, .int .i64 c0, .int .i64 d0, .int .i64 a1, .int .i64 b1, .int .i64 c1, .int .i64 d1, .int .i64 a2, .int .i64 b2, .int .i64 c2, .int .i64 d2, .int .i64 a3, .int .i64 b3, .int .i64 c3, .int .i64 d3] 47 (0, 0)) ∧ w'.heap[w.heap.size + 1]? = some (.cells #[.int .i64 e0, .int .i64 f0, .int .i64 g0, .int .i64 h0, .int .i64 e1, .int .i64 f1, .int .i64 g1, .int .i64 h1, .int .i64 e2, .int .i64 f2, .int .i64 g2, .int .i64 h2, .int .i64 e3, .int .i64 f3, .int .i64 g3, .int .i64 h3] 47 (0, 0))) := Lib.hid (fun w' hb => ⟨(hb.block _ lP).trans bP, (hb.block _ lQ).trans bQ⟩)
  have G1 : Hid (∀ w' : World, Below W.heap.size W w' → w'.heap[w.heap.size + 1 + 1]? = some (.cells #[.int .i64 0, .int .i64 0, .int .i64 0, .int .i64 0, .int .i64 0, .int .i64 0, .int .i64 0, .int .i64 0, .int .i64 0, .int .i64 0, .int .i64 0, .int .i64 0, .int .i64 0, .int .i64 0, .int .i64 0, .int .i64 0] 49 (0, 0))) := Lib.hid (fun w' hb => (hb.block _ hsz).trans bT)
  have HB0 := Lib.hid hb0
  clear hb0 bP bQ bT hPB PB
  have RAP3 : Hid (∀ w' : World, (w'.heap[w.heap.size]? = some (.cells #[.int .i64 a0, .int .i64 b0, .int .i64 c0, .int .i64 d0, .int .i64 a1, .int .i64 b1, .int .i64 c1, .int .i64 d1, .int .i64 a2, .int .i64 b2, .int .i64 c2, .int .i64 d2, .int .i64 a3, .int .i64 b3, .int .i64 c3, .int .i64 d3] 47 (0, 0)) ∧ w'.heap[w.heap.size + 1]? = some (.cells #[.int .i64 e0, .int .i64 f0, .int .i64 g0, .int .i64 h0, .int .i64 e1, .int .i64 f1, .int .i64 g1, .int .i64 h1, .int .i64 e2, .int .i64 f2, .int .i64 g2, .int .i64 h2, .int .i64 e3, .int .i64 f3, .int .i64 g3, .int .i64 h3] 47 (0, 0))) → w'.rangeAt (w.heap.size) 12 [.int .i64 a3, .int .i64 b3, .int .i64 c3, .int .i64 d3]) := Lib.hid (fun w' h => range_row h.1 12 [.int .i64 a3, .int .i64 b3, .int .i64 c3, .int .i64 d3] (fun j hj => by
    rcases four_at (by simpa using hj) with rfl | rfl | rfl | rfl <;> rfl))
  have RAQ0 : Hid (∀ w' : World, (w'.heap[w.heap.size]? = some (.cells #[.int .i64 a0, .int .i64 b0, .int .i64 c0, .int .i64 d0, .int .i64 a1, .int .i64 b1, .int .i64 c1, .int .i64 d1, .int .i64 a2, .int .i64 b2, .int .i64 c2, .int .i64 d2, .int .i64 a3, .int .i64 b3, .int .i64 c3, .int .i64 d3] 47 (0, 0)) ∧ w'.heap[w.heap.size + 1]? = some (.cells #[.int .i64 e0, .int .i64 f0, .int .i64 g0, .int .i64 h0, .int .i64 e1, .int .i64 f1, .int .i64 g1, .int .i64 h1, .int .i64 e2, .int .i64 f2, .int .i64 g2, .int .i64 h2, .int .i64 e3, .int .i64 f3, .int .i64 g3, .int .i64 h3] 47 (0, 0))) → w'.rangeAt (w.heap.size + 1) 0 [.int .i64 e0, .int .i64 f0, .int .i64 g0, .int .i64 h0]) := Lib.hid (fun w' h => range_row h.2 0 [.int .i64 e0, .int .i64 f0, .int .i64 g0, .int .i64 h0] (fun j hj => by
    rcases four_at (by simpa using hj) with rfl | rfl | rfl | rfl <;> rfl))
  go_cut [5] (fun vx wx => ∃ (X : Nat) (n1 n2 n3 n4 : Int), vx = .pointer (some ⟨X, 0, none⟩) ∧ starD ⟨⟨⟨a0, b0⟩, ⟨c0, d0⟩⟩, ⟨⟨a1, b1⟩, ⟨c1, d1⟩⟩, ⟨⟨a2, b2⟩, ⟨c2, d2⟩⟩, ⟨⟨a3, b3⟩, ⟨c3, d3⟩⟩⟩ ⟨⟨⟨e0, f0⟩, ⟨g0, h0⟩⟩, ⟨⟨e1, f1⟩, ⟨g1, h1⟩⟩, ⟨⟨e2, f2⟩, ⟨g2, h2⟩⟩, ⟨⟨e3, f3⟩, ⟨g3, h3⟩⟩⟩ = .ok ⟨⟨n1, n2⟩, ⟨n3, n4⟩⟩ ∧ W.heap.size ≤ X ∧ wx.heap[X]? = some (.cells #[.int .i64 n1, .int .i64 n2, .int .i64 n3, .int .i64 n4] 25 (0, 0)) ∧ Below W.heap.size W wx)
  case first =>
    have HD1 : Below W.heap.size W W.drew := (Below.refl _ _).drew
    refine wp_region_held_drew (S := fun w' => w'.heap[w.heap.size]? = some (.cells #[.int .i64 a0, .int .i64 b0, .int .i64 c0, .int .i64 d0, .int .i64 a1, .int .i64 b1, .int .i64 c1, .int .i64 d1, .int .i64 a2, .int .i64 b2, .int .i64 c2, .int .i64 d2, .int .i64 a3, .int .i64 b3, .int .i64 c3, .int .i64 d3] 47 (0, 0)) ∧ w'.heap[w.heap.size + 1]? = some (.cells #[.int .i64 e0, .int .i64 f0, .int .i64 g0, .int .i64 h0, .int .i64 e1, .int .i64 f1, .int .i64 g1, .int .i64 h1, .int .i64 e2, .int .i64 f2, .int .i64 g2, .int .i64 h2, .int .i64 e3, .int .i64 f3, .int .i64 g3, .int .i64 h3] 47 (0, 0))) (by kernel_rfl) (G0.out _ HD1) (fun hHeld => ?_)
    refine wpAnyH_take (i := 2) (oi := _) (v := ?_) rfl (by kernel_rfl) (by kernel_rfl) (by kernel_rfl) (fun _ _ _ h => h) (Or.inl ⟨by rfl, ?_⟩) (by assumption) ?_
    rotate_left
    · intro w _; go_simp; (try with_reducible rfl)
    try change wpAnyH _ _ _ _ _ _ _ (Act.put _ (some 9) _) _
    try simp only [act_all]
    refine wpAnyH_take (i := 3) (oi := _) (v := ?_) rfl (by kernel_rfl) (by kernel_rfl) (by kernel_rfl) (fun _ _ _ h => h) (Or.inl ⟨by rfl, ?_⟩) (by assumption) ?_
    rotate_left
    · intro w _; go_simp; (try with_reducible rfl)
    try change wpAnyH _ _ _ _ _ _ _ (Act.put _ (some 10) _) _
    try simp only [act_all]
    refine wpAnyH_take (i := 4) (oi := _) (v := _) rfl (by kernel_rfl) (by kernel_rfl) (by kernel_rfl) (fun _ _ _ h => h) (yieldsIf_load_mid (by rfl) 25 _ rfl (w.heap.size) 12 rfl [.int .i64 a3, .int .i64 b3, .int .i64 c3, .int .i64 d3] _ RAP3.out Try.underlying25 rfl (by kernel_rfl)) (by assumption) ?_
    try change wpAnyH _ _ _ _ _ _ _ (Act.put _ (some 11) _) _
    try simp only [act_all]
    refine wpAnyH_take (i := 5) (oi := _) (v := ?_) rfl (by kernel_rfl) (by kernel_rfl) (by kernel_rfl) (fun _ _ _ h => h) (Or.inl ⟨by rfl, ?_⟩) (by assumption) ?_
    rotate_left
    · intro w _; go_simp; (try with_reducible rfl)
    try change wpAnyH _ _ _ _ _ _ _ (Act.put _ (some 12) _) _
    try simp only [act_all]
    refine wpAnyH_take (i := 6) (oi := _) (v := ?_) rfl (by kernel_rfl) (by kernel_rfl) (by kernel_rfl) (fun _ _ _ h => h) (Or.inl ⟨by rfl, ?_⟩) (by assumption) ?_
    rotate_left
    · intro w _; go_simp; (try with_reducible rfl)
    try change wpAnyH _ _ _ _ _ _ _ (Act.put _ (some 13) _) _
    try simp only [act_all]
    refine wpAnyH_take (i := 7) (oi := _) (v := _) rfl (by kernel_rfl) (by kernel_rfl) (by kernel_rfl) (fun _ _ _ h => h) (yieldsIf_load_mid (by rfl) 25 _ rfl (w.heap.size + 1) 0 rfl [.int .i64 e0, .int .i64 f0, .int .i64 g0, .int .i64 h0] _ RAQ0.out Try.underlying25 rfl (by kernel_rfl)) (by assumption) ?_
    try change wpAnyH _ _ _ _ _ _ _ (Act.put _ (some 14) _) _
    try simp only [act_all]
    refine wpAnyH_ready (rs := [0, 10]) (by kernel_rfl) (by simp) ?_
    refine AllReadyH.cons (o := _) rfl (fun K hK => ?_) ?_
    · go_simp
      refine ((whole_any 1 _ (by omega) (by omega)).mono (fun e w' h => (by rw [show (1 : Int) * 1073741824 = 1073741824 from rfl] at h; exact h : e = retS ⟨1073741824, 1073741824⟩ ∧ Below _ _ w'))).mono ?_
      rintro e w2 ⟨he, hb⟩
      have HD2 : Below W.heap.size W w2 := HD1.trans (hb.mono HD1.size)
      have hz2 := hb.size
      (try simp at hz2)
      clear hb hHeld 
      obtain rfl : e = .returned (.agg #[.int .i64 1073741824, .int .i64 1073741824]) := he
      refine hK.out _ _ (G0.out _ HD2) (fun hHeld => ?_)
      clear hK K
      try simp only [act_all]
      refine wpAnyH_ready (rs := [1, 10]) (by kernel_rfl) (by simp) ?_
      refine AllReadyH.cons (o := _) rfl (fun K hK => ?_) ?_
      · go_simp
        refine (onAxis_any 1073741824 1073741824 _).mono ?_
        rintro e w3 ⟨he, hb⟩
        have HD3 : Below W.heap.size W w3 := HD2.trans (hb.mono HD2.size)
        have hz3 := hb.size
        (try simp at hz3)
        clear hb hHeld 
        obtain rfl : e = .returned (.agg #[.int .i64 1073741824, .int .i64 1073741824, .int .i64 0, .int .i64 0]) := he
        refine hK.out _ _ (G0.out _ HD3) (fun hHeld => ?_)
        clear hK K
        try simp only [act_all]
        refine wpAnyH_ready (rs := [8, 10]) (by kernel_rfl) (by simp) ?_
        refine AllReadyH.cons (o := _) rfl (fun K hK => ?_) ?_
        · go_simp
          refine (mulRect_any a3 b3 c3 d3 e0 f0 g0 h0 _ HP3.out.1 HP3.out.2 HQ0.out.1 HQ0.out.2).mono ?_
          rintro e w4 ⟨he, hb⟩
          have HD4 : Below W.heap.size W w4 := HD3.trans (hb.mono HD3.size)
          have hz4 := hb.size
          (try simp at hz4)
          clear hb hHeld 
          obtain ⟨r, hr⟩ : ∃ r, (mulR ⟨⟨a3, b3⟩, ⟨c3, d3⟩⟩ ⟨⟨e0, f0⟩, ⟨g0, h0⟩⟩) = r := ⟨_, rfl⟩
          rw [hr] at he
          have HR4 := Lib.hid hr
          clear hr
          rcases r with ⟨⟨m1, m2⟩, ⟨m3, m4⟩⟩ | k
          case' bad =>
            obtain rfl : e = .panicked [{ v := .iface 26 (.int .i64 k), recovered := false }] := he
            refine ⟨rfl, ?_, HB0.out.trans (HD4.mono (by omega))⟩
            rw [← HSP.out]; simp only [starR, starD, one1, S0, HR4.out, Out.binds, IsO]; (try rfl)
          obtain rfl : e = .returned (.agg #[.int .i64 m1, .int .i64 m2, .int .i64 m3, .int .i64 m4]) := he
          have HO4 := Lib.hid ((okR_iff _).1 (mulR_ok HR4.out))
          refine hK.out _ _ (G0.out _ HD4) (fun hHeld => ?_)
          clear hK K
          try simp only [act_all]
          refine wpAnyH_ready (rs := [9, 10]) (by kernel_rfl) (by simp) ?_
          refine AllReadyH.cons (o := _) rfl (fun K hK => ?_) ?_
          · go_simp
            refine (subRect_any 1073741824 1073741824 0 0 m1 m2 m3 m4 _ h1k.out h0k.out HO4.out.1 HO4.out.2).mono ?_
            rintro e w5 ⟨he, hb⟩
            have HD5 : Below W.heap.size W w5 := HD4.trans (hb.mono HD4.size)
            have hz5 := hb.size
            (try simp at hz5)
            clear hb hHeld 
            obtain ⟨r, hr⟩ : ∃ r, (subR ⟨⟨1073741824, 1073741824⟩, ⟨0, 0⟩⟩ ⟨⟨m1, m2⟩, ⟨m3, m4⟩⟩) = r := ⟨_, rfl⟩
            rw [hr] at he
            have HR5 := Lib.hid hr
            clear hr
            rcases r with ⟨⟨n1, n2⟩, ⟨n3, n4⟩⟩ | k
            case' bad =>
              obtain rfl : e = .panicked [{ v := .iface 26 (.int .i64 k), recovered := false }] := he
              refine ⟨rfl, ?_, HB0.out.trans (HD5.mono (by omega))⟩
              rw [← HSP.out]; simp only [starR, starD, one1, S0, HR4.out, HR5.out, Out.binds, IsO]; (try rfl)
            obtain rfl : e = .returned (.agg #[.int .i64 n1, .int .i64 n2, .int .i64 n3, .int .i64 n4]) := he
            have HO5 := Lib.hid ((okR_iff _).1 (subR_ok HR5.out))
            refine hK.out _ _ (G0.out _ HD5) (fun hHeld => ?_)
            clear hK K
            try simp only [act_all]
            refine wpAnyH_ready (rs := [10]) (by kernel_rfl) (by simp) ?_
            refine AllReadyH.cons (o := _) rfl (fun K hK => ?_) AllReadyH.nil
            have HD6 : Below W.heap.size W (w5.alloc (Obj.cells #[.int .i64 0, .int .i64 0, .int .i64 0, .int .i64 0] 25)) := bal HD5 _
            go_simp
            refine hK.out _ _ (G0.out _ HD6) (fun hHeld => ?_)
            clear hK K
            try simp only [act_all]
            refine wpAnyH_ready (rs := [11]) (by kernel_rfl) (by simp) ?_
            refine AllReadyH.cons (o := _) rfl (fun K hK => ?_) AllReadyH.nil
            have kD7 : (w5.alloc (Obj.cells #[.int .i64 0, .int .i64 0, .int .i64 0, .int .i64 0] 25)).heap[w5.heap.size]? = some (.cells #[.int .i64 0, .int .i64 0, .int .i64 0, .int .i64 0] 25 (0, 0)) := (heap_alloc_new w5 _)
            have HTH := Lib.hid (there_mid kD7 0 4 (by decide))
            have HD7 : Below W.heap.size W ((w5.alloc (Obj.cells #[.int .i64 0, .int .i64 0, .int .i64 0, .int .i64 0] 25)).setCells (w5.heap.size) 0 [.int .i64 n1, .int .i64 n2, .int .i64 n3, .int .i64 n4]) := below_mids (by have := HD6.size; first | omega | (simp; done) | (simp; omega)) _ _ HD6
            have kE7 : ((w5.alloc (Obj.cells #[.int .i64 0, .int .i64 0, .int .i64 0, .int .i64 0] 25)).setCells (w5.heap.size) 0 [.int .i64 n1, .int .i64 n2, .int .i64 n3, .int .i64 n4]).heap[w5.heap.size]? = some (.cells #[.int .i64 n1, .int .i64 n2, .int .i64 n3, .int .i64 n4] 25 (0, 0)) := block_setCells [.int .i64 n1, .int .i64 n2, .int .i64 n3, .int .i64 n4] 0 _ _ kD7
            rw [if_pos (show Region.wanted _ _ = true from rfl)]
            refine wp_store_mid 25 (.tmp 5) (.tmp 16) rfl (w5.heap.size) 0 #[.int .i64 n1, .int .i64 n2, .int .i64 n3, .int .i64 n4] rfl rfl HTH.out (by kernel_rfl) (by simp [Value.oneCell']) ?_
            rw [show (#[.int .i64 n1, .int .i64 n2, .int .i64 n3, .int .i64 n4] : Array Value).toList = [.int .i64 n1, .int .i64 n2, .int .i64 n3, .int .i64 n4] from rfl]
            refine hK.out _ _ (G0.out _ HD7) (fun hHeld => ?_)
            clear hK K
            try simp only [act_all]
            refine wpAnyH_done (by kernel_rfl) ?_ _
            have HEQ : starD ⟨⟨⟨a0, b0⟩, ⟨c0, d0⟩⟩, ⟨⟨a1, b1⟩, ⟨c1, d1⟩⟩, ⟨⟨a2, b2⟩, ⟨c2, d2⟩⟩, ⟨⟨a3, b3⟩, ⟨c3, d3⟩⟩⟩ ⟨⟨⟨e0, f0⟩, ⟨g0, h0⟩⟩, ⟨⟨e1, f1⟩, ⟨g1, h1⟩⟩, ⟨⟨e2, f2⟩, ⟨g2, h2⟩⟩, ⟨⟨e3, f3⟩, ⟨g3, h3⟩⟩⟩ = .ok ⟨⟨n1, n2⟩, ⟨n3, n4⟩⟩ := by simp only [starD, one1, S0, HR4.out, HR5.out, Out.binds]
            go_wp2_with fail
            go_meet
            exact ⟨_, _, _, _, _, rfl, HEQ, by have := HD7.size; first | omega | (simp; done) | (simp; omega), kE7, HD7⟩
          refine AllReadyH.cons (o := _) rfl (fun K hK => ?_) AllReadyH.nil
          have HD8 : Below W.heap.size W (w4.alloc (Obj.cells #[.int .i64 0, .int .i64 0, .int .i64 0, .int .i64 0] 25)) := bal HD4 _
          go_simp
          refine hK.out _ _ (G0.out _ HD8) (fun hHeld => ?_)
          clear hK K
          try simp only [act_all]
          refine wpAnyH_ready (rs := [9]) (by kernel_rfl) (by simp) ?_
          refine AllReadyH.cons (o := _) rfl (fun K hK => ?_) AllReadyH.nil
          go_simp
          refine (subRect_any 1073741824 1073741824 0 0 m1 m2 m3 m4 _ h1k.out h0k.out HO4.out.1 HO4.out.2).mono ?_
          rintro e w9 ⟨he, hb⟩
          have HD9 : Below W.heap.size W w9 := HD8.trans (hb.mono HD8.size)
          have kD9 : w9.heap[w4.heap.size]? = some (.cells #[.int .i64 0, .int .i64 0, .int .i64 0, .int .i64 0] 25 (0, 0)) := (hb.block _ (by first | omega | (simp; done) | (simp; omega))).trans (heap_alloc_new w4 _)
          have hz9 := hb.size
          (try simp at hz9)
          clear hb hHeld 
          obtain ⟨r, hr⟩ : ∃ r, (subR ⟨⟨1073741824, 1073741824⟩, ⟨0, 0⟩⟩ ⟨⟨m1, m2⟩, ⟨m3, m4⟩⟩) = r := ⟨_, rfl⟩
          rw [hr] at he
          have HR9 := Lib.hid hr
          clear hr
          rcases r with ⟨⟨n1, n2⟩, ⟨n3, n4⟩⟩ | k
          case' bad =>
            obtain rfl : e = .panicked [{ v := .iface 26 (.int .i64 k), recovered := false }] := he
            refine ⟨rfl, ?_, HB0.out.trans (HD9.mono (by omega))⟩
            rw [← HSP.out]; simp only [starR, starD, one1, S0, HR4.out, HR9.out, Out.binds, IsO]; (try rfl)
          obtain rfl : e = .returned (.agg #[.int .i64 n1, .int .i64 n2, .int .i64 n3, .int .i64 n4]) := he
          have HO9 := Lib.hid ((okR_iff _).1 (subR_ok HR9.out))
          refine hK.out _ _ (G0.out _ HD9) (fun hHeld => ?_)
          clear hK K
          try simp only [act_all]
          refine wpAnyH_ready (rs := [11]) (by kernel_rfl) (by simp) ?_
          refine AllReadyH.cons (o := _) rfl (fun K hK => ?_) AllReadyH.nil
          have kD10 : w9.heap[w4.heap.size]? = some (.cells #[.int .i64 0, .int .i64 0, .int .i64 0, .int .i64 0] 25 (0, 0)) := kD9
          have HTH := Lib.hid (there_mid kD10 0 4 (by decide))
          have HD10 : Below W.heap.size W (w9.setCells (w4.heap.size) 0 [.int .i64 n1, .int .i64 n2, .int .i64 n3, .int .i64 n4]) := below_mids (by have := HD9.size; first | omega | (simp; done) | (simp; omega)) _ _ HD9
          have kE10 : (w9.setCells (w4.heap.size) 0 [.int .i64 n1, .int .i64 n2, .int .i64 n3, .int .i64 n4]).heap[w4.heap.size]? = some (.cells #[.int .i64 n1, .int .i64 n2, .int .i64 n3, .int .i64 n4] 25 (0, 0)) := block_setCells [.int .i64 n1, .int .i64 n2, .int .i64 n3, .int .i64 n4] 0 _ _ kD10
          rw [if_pos (show Region.wanted _ _ = true from rfl)]
          refine wp_store_mid 25 (.tmp 5) (.tmp 16) rfl (w4.heap.size) 0 #[.int .i64 n1, .int .i64 n2, .int .i64 n3, .int .i64 n4] rfl rfl HTH.out (by kernel_rfl) (by simp [Value.oneCell']) ?_
          rw [show (#[.int .i64 n1, .int .i64 n2, .int .i64 n3, .int .i64 n4] : Array Value).toList = [.int .i64 n1, .int .i64 n2, .int .i64 n3, .int .i64 n4] from rfl]
          refine hK.out _ _ (G0.out _ HD10) (fun hHeld => ?_)
          clear hK K
          try simp only [act_all]
          refine wpAnyH_done (by kernel_rfl) ?_ _
          have HEQ : starD ⟨⟨⟨a0, b0⟩, ⟨c0, d0⟩⟩, ⟨⟨a1, b1⟩, ⟨c1, d1⟩⟩, ⟨⟨a2, b2⟩, ⟨c2, d2⟩⟩, ⟨⟨a3, b3⟩, ⟨c3, d3⟩⟩⟩ ⟨⟨⟨e0, f0⟩, ⟨g0, h0⟩⟩, ⟨⟨e1, f1⟩, ⟨g1, h1⟩⟩, ⟨⟨e2, f2⟩, ⟨g2, h2⟩⟩, ⟨⟨e3, f3⟩, ⟨g3, h3⟩⟩⟩ = .ok ⟨⟨n1, n2⟩, ⟨n3, n4⟩⟩ := by simp only [starD, one1, S0, HR4.out, HR9.out, Out.binds]
          go_wp2_with fail
          go_meet
          exact ⟨_, _, _, _, _, rfl, HEQ, by have := HD10.size; first | omega | (simp; done) | (simp; omega), kE10, HD10⟩
        refine AllReadyH.cons (o := _) rfl (fun K hK => ?_) AllReadyH.nil
        have HD11 : Below W.heap.size W (w3.alloc (Obj.cells #[.int .i64 0, .int .i64 0, .int .i64 0, .int .i64 0] 25)) := bal HD3 _
        go_simp
        refine hK.out _ _ (G0.out _ HD11) (fun hHeld => ?_)
        clear hK K
        try simp only [act_all]
        refine wpAnyH_ready (rs := [8]) (by kernel_rfl) (by simp) ?_
        refine AllReadyH.cons (o := _) rfl (fun K hK => ?_) AllReadyH.nil
        go_simp
        refine (mulRect_any a3 b3 c3 d3 e0 f0 g0 h0 _ HP3.out.1 HP3.out.2 HQ0.out.1 HQ0.out.2).mono ?_
        rintro e w12 ⟨he, hb⟩
        have HD12 : Below W.heap.size W w12 := HD11.trans (hb.mono HD11.size)
        have kD12 : w12.heap[w3.heap.size]? = some (.cells #[.int .i64 0, .int .i64 0, .int .i64 0, .int .i64 0] 25 (0, 0)) := (hb.block _ (by first | omega | (simp; done) | (simp; omega))).trans (heap_alloc_new w3 _)
        have hz12 := hb.size
        (try simp at hz12)
        clear hb hHeld 
        obtain ⟨r, hr⟩ : ∃ r, (mulR ⟨⟨a3, b3⟩, ⟨c3, d3⟩⟩ ⟨⟨e0, f0⟩, ⟨g0, h0⟩⟩) = r := ⟨_, rfl⟩
        rw [hr] at he
        have HR12 := Lib.hid hr
        clear hr
        rcases r with ⟨⟨m1, m2⟩, ⟨m3, m4⟩⟩ | k
        case' bad =>
          obtain rfl : e = .panicked [{ v := .iface 26 (.int .i64 k), recovered := false }] := he
          refine ⟨rfl, ?_, HB0.out.trans (HD12.mono (by omega))⟩
          rw [← HSP.out]; simp only [starR, starD, one1, S0, HR12.out, Out.binds, IsO]; (try rfl)
        obtain rfl : e = .returned (.agg #[.int .i64 m1, .int .i64 m2, .int .i64 m3, .int .i64 m4]) := he
        have HO12 := Lib.hid ((okR_iff _).1 (mulR_ok HR12.out))
        refine hK.out _ _ (G0.out _ HD12) (fun hHeld => ?_)
        clear hK K
        try simp only [act_all]
        refine wpAnyH_ready (rs := [9]) (by kernel_rfl) (by simp) ?_
        refine AllReadyH.cons (o := _) rfl (fun K hK => ?_) AllReadyH.nil
        go_simp
        refine (subRect_any 1073741824 1073741824 0 0 m1 m2 m3 m4 _ h1k.out h0k.out HO12.out.1 HO12.out.2).mono ?_
        rintro e w13 ⟨he, hb⟩
        have HD13 : Below W.heap.size W w13 := HD12.trans (hb.mono HD12.size)
        have kD13 : w13.heap[w3.heap.size]? = some (.cells #[.int .i64 0, .int .i64 0, .int .i64 0, .int .i64 0] 25 (0, 0)) := (hb.block _ (by first | omega | (simp; done) | (simp; omega))).trans kD12
        have hz13 := hb.size
        (try simp at hz13)
        clear hb hHeld kD12
        obtain ⟨r, hr⟩ : ∃ r, (subR ⟨⟨1073741824, 1073741824⟩, ⟨0, 0⟩⟩ ⟨⟨m1, m2⟩, ⟨m3, m4⟩⟩) = r := ⟨_, rfl⟩
        rw [hr] at he
        have HR13 := Lib.hid hr
        clear hr
        rcases r with ⟨⟨n1, n2⟩, ⟨n3, n4⟩⟩ | k
        case' bad =>
          obtain rfl : e = .panicked [{ v := .iface 26 (.int .i64 k), recovered := false }] := he
          refine ⟨rfl, ?_, HB0.out.trans (HD13.mono (by omega))⟩
          rw [← HSP.out]; simp only [starR, starD, one1, S0, HR12.out, HR13.out, Out.binds, IsO]; (try rfl)
        obtain rfl : e = .returned (.agg #[.int .i64 n1, .int .i64 n2, .int .i64 n3, .int .i64 n4]) := he
        have HO13 := Lib.hid ((okR_iff _).1 (subR_ok HR13.out))
        refine hK.out _ _ (G0.out _ HD13) (fun hHeld => ?_)
        clear hK K
        try simp only [act_all]
        refine wpAnyH_ready (rs := [11]) (by kernel_rfl) (by simp) ?_
        refine AllReadyH.cons (o := _) rfl (fun K hK => ?_) AllReadyH.nil
        have kD14 : w13.heap[w3.heap.size]? = some (.cells #[.int .i64 0, .int .i64 0, .int .i64 0, .int .i64 0] 25 (0, 0)) := kD13
        have HTH := Lib.hid (there_mid kD14 0 4 (by decide))
        have HD14 : Below W.heap.size W (w13.setCells (w3.heap.size) 0 [.int .i64 n1, .int .i64 n2, .int .i64 n3, .int .i64 n4]) := below_mids (by have := HD13.size; first | omega | (simp; done) | (simp; omega)) _ _ HD13
        have kE14 : (w13.setCells (w3.heap.size) 0 [.int .i64 n1, .int .i64 n2, .int .i64 n3, .int .i64 n4]).heap[w3.heap.size]? = some (.cells #[.int .i64 n1, .int .i64 n2, .int .i64 n3, .int .i64 n4] 25 (0, 0)) := block_setCells [.int .i64 n1, .int .i64 n2, .int .i64 n3, .int .i64 n4] 0 _ _ kD14
        rw [if_pos (show Region.wanted _ _ = true from rfl)]
        refine wp_store_mid 25 (.tmp 5) (.tmp 16) rfl (w3.heap.size) 0 #[.int .i64 n1, .int .i64 n2, .int .i64 n3, .int .i64 n4] rfl rfl HTH.out (by kernel_rfl) (by simp [Value.oneCell']) ?_
        rw [show (#[.int .i64 n1, .int .i64 n2, .int .i64 n3, .int .i64 n4] : Array Value).toList = [.int .i64 n1, .int .i64 n2, .int .i64 n3, .int .i64 n4] from rfl]
        refine hK.out _ _ (G0.out _ HD14) (fun hHeld => ?_)
        clear hK K
        try simp only [act_all]
        refine wpAnyH_done (by kernel_rfl) ?_ _
        have HEQ : starD ⟨⟨⟨a0, b0⟩, ⟨c0, d0⟩⟩, ⟨⟨a1, b1⟩, ⟨c1, d1⟩⟩, ⟨⟨a2, b2⟩, ⟨c2, d2⟩⟩, ⟨⟨a3, b3⟩, ⟨c3, d3⟩⟩⟩ ⟨⟨⟨e0, f0⟩, ⟨g0, h0⟩⟩, ⟨⟨e1, f1⟩, ⟨g1, h1⟩⟩, ⟨⟨e2, f2⟩, ⟨g2, h2⟩⟩, ⟨⟨e3, f3⟩, ⟨g3, h3⟩⟩⟩ = .ok ⟨⟨n1, n2⟩, ⟨n3, n4⟩⟩ := by simp only [starD, one1, S0, HR12.out, HR13.out, Out.binds]
        go_wp2_with fail
        go_meet
        exact ⟨_, _, _, _, _, rfl, HEQ, by have := HD14.size; first | omega | (simp; done) | (simp; omega), kE14, HD14⟩
      refine AllReadyH.cons (o := _) rfl (fun K hK => ?_) AllReadyH.nil
      have HD15 : Below W.heap.size W (w2.alloc (Obj.cells #[.int .i64 0, .int .i64 0, .int .i64 0, .int .i64 0] 25)) := bal HD2 _
      go_simp
      refine hK.out _ _ (G0.out _ HD15) (fun hHeld => ?_)
      clear hK K
      try simp only [act_all]
      refine wpAnyH_ready (rs := [1]) (by kernel_rfl) (by simp) ?_
      refine AllReadyH.cons (o := _) rfl (fun K hK => ?_) AllReadyH.nil
      go_simp
      refine (onAxis_any 1073741824 1073741824 _).mono ?_
      rintro e w16 ⟨he, hb⟩
      have HD16 : Below W.heap.size W w16 := HD15.trans (hb.mono HD15.size)
      have kD16 : w16.heap[w2.heap.size]? = some (.cells #[.int .i64 0, .int .i64 0, .int .i64 0, .int .i64 0] 25 (0, 0)) := (hb.block _ (by first | omega | (simp; done) | (simp; omega))).trans (heap_alloc_new w2 _)
      have hz16 := hb.size
      (try simp at hz16)
      clear hb hHeld 
      obtain rfl : e = .returned (.agg #[.int .i64 1073741824, .int .i64 1073741824, .int .i64 0, .int .i64 0]) := he
      refine hK.out _ _ (G0.out _ HD16) (fun hHeld => ?_)
      clear hK K
      try simp only [act_all]
      refine wpAnyH_ready (rs := [8]) (by kernel_rfl) (by simp) ?_
      refine AllReadyH.cons (o := _) rfl (fun K hK => ?_) AllReadyH.nil
      go_simp
      refine (mulRect_any a3 b3 c3 d3 e0 f0 g0 h0 _ HP3.out.1 HP3.out.2 HQ0.out.1 HQ0.out.2).mono ?_
      rintro e w17 ⟨he, hb⟩
      have HD17 : Below W.heap.size W w17 := HD16.trans (hb.mono HD16.size)
      have kD17 : w17.heap[w2.heap.size]? = some (.cells #[.int .i64 0, .int .i64 0, .int .i64 0, .int .i64 0] 25 (0, 0)) := (hb.block _ (by first | omega | (simp; done) | (simp; omega))).trans kD16
      have hz17 := hb.size
      (try simp at hz17)
      clear hb hHeld kD16
      obtain ⟨r, hr⟩ : ∃ r, (mulR ⟨⟨a3, b3⟩, ⟨c3, d3⟩⟩ ⟨⟨e0, f0⟩, ⟨g0, h0⟩⟩) = r := ⟨_, rfl⟩
      rw [hr] at he
      have HR17 := Lib.hid hr
      clear hr
      rcases r with ⟨⟨m1, m2⟩, ⟨m3, m4⟩⟩ | k
      case' bad =>
        obtain rfl : e = .panicked [{ v := .iface 26 (.int .i64 k), recovered := false }] := he
        refine ⟨rfl, ?_, HB0.out.trans (HD17.mono (by omega))⟩
        rw [← HSP.out]; simp only [starR, starD, one1, S0, HR17.out, Out.binds, IsO]; (try rfl)
      obtain rfl : e = .returned (.agg #[.int .i64 m1, .int .i64 m2, .int .i64 m3, .int .i64 m4]) := he
      have HO17 := Lib.hid ((okR_iff _).1 (mulR_ok HR17.out))
      refine hK.out _ _ (G0.out _ HD17) (fun hHeld => ?_)
      clear hK K
      try simp only [act_all]
      refine wpAnyH_ready (rs := [9]) (by kernel_rfl) (by simp) ?_
      refine AllReadyH.cons (o := _) rfl (fun K hK => ?_) AllReadyH.nil
      go_simp
      refine (subRect_any 1073741824 1073741824 0 0 m1 m2 m3 m4 _ h1k.out h0k.out HO17.out.1 HO17.out.2).mono ?_
      rintro e w18 ⟨he, hb⟩
      have HD18 : Below W.heap.size W w18 := HD17.trans (hb.mono HD17.size)
      have kD18 : w18.heap[w2.heap.size]? = some (.cells #[.int .i64 0, .int .i64 0, .int .i64 0, .int .i64 0] 25 (0, 0)) := (hb.block _ (by first | omega | (simp; done) | (simp; omega))).trans kD17
      have hz18 := hb.size
      (try simp at hz18)
      clear hb hHeld kD17
      obtain ⟨r, hr⟩ : ∃ r, (subR ⟨⟨1073741824, 1073741824⟩, ⟨0, 0⟩⟩ ⟨⟨m1, m2⟩, ⟨m3, m4⟩⟩) = r := ⟨_, rfl⟩
      rw [hr] at he
      have HR18 := Lib.hid hr
      clear hr
      rcases r with ⟨⟨n1, n2⟩, ⟨n3, n4⟩⟩ | k
      case' bad =>
        obtain rfl : e = .panicked [{ v := .iface 26 (.int .i64 k), recovered := false }] := he
        refine ⟨rfl, ?_, HB0.out.trans (HD18.mono (by omega))⟩
        rw [← HSP.out]; simp only [starR, starD, one1, S0, HR17.out, HR18.out, Out.binds, IsO]; (try rfl)
      obtain rfl : e = .returned (.agg #[.int .i64 n1, .int .i64 n2, .int .i64 n3, .int .i64 n4]) := he
      have HO18 := Lib.hid ((okR_iff _).1 (subR_ok HR18.out))
      refine hK.out _ _ (G0.out _ HD18) (fun hHeld => ?_)
      clear hK K
      try simp only [act_all]
      refine wpAnyH_ready (rs := [11]) (by kernel_rfl) (by simp) ?_
      refine AllReadyH.cons (o := _) rfl (fun K hK => ?_) AllReadyH.nil
      have kD19 : w18.heap[w2.heap.size]? = some (.cells #[.int .i64 0, .int .i64 0, .int .i64 0, .int .i64 0] 25 (0, 0)) := kD18
      have HTH := Lib.hid (there_mid kD19 0 4 (by decide))
      have HD19 : Below W.heap.size W (w18.setCells (w2.heap.size) 0 [.int .i64 n1, .int .i64 n2, .int .i64 n3, .int .i64 n4]) := below_mids (by have := HD18.size; first | omega | (simp; done) | (simp; omega)) _ _ HD18
      have kE19 : (w18.setCells (w2.heap.size) 0 [.int .i64 n1, .int .i64 n2, .int .i64 n3, .int .i64 n4]).heap[w2.heap.size]? = some (.cells #[.int .i64 n1, .int .i64 n2, .int .i64 n3, .int .i64 n4] 25 (0, 0)) := block_setCells [.int .i64 n1, .int .i64 n2, .int .i64 n3, .int .i64 n4] 0 _ _ kD19
      rw [if_pos (show Region.wanted _ _ = true from rfl)]
      refine wp_store_mid 25 (.tmp 5) (.tmp 16) rfl (w2.heap.size) 0 #[.int .i64 n1, .int .i64 n2, .int .i64 n3, .int .i64 n4] rfl rfl HTH.out (by kernel_rfl) (by simp [Value.oneCell']) ?_
      rw [show (#[.int .i64 n1, .int .i64 n2, .int .i64 n3, .int .i64 n4] : Array Value).toList = [.int .i64 n1, .int .i64 n2, .int .i64 n3, .int .i64 n4] from rfl]
      refine hK.out _ _ (G0.out _ HD19) (fun hHeld => ?_)
      clear hK K
      try simp only [act_all]
      refine wpAnyH_done (by kernel_rfl) ?_ _
      have HEQ : starD ⟨⟨⟨a0, b0⟩, ⟨c0, d0⟩⟩, ⟨⟨a1, b1⟩, ⟨c1, d1⟩⟩, ⟨⟨a2, b2⟩, ⟨c2, d2⟩⟩, ⟨⟨a3, b3⟩, ⟨c3, d3⟩⟩⟩ ⟨⟨⟨e0, f0⟩, ⟨g0, h0⟩⟩, ⟨⟨e1, f1⟩, ⟨g1, h1⟩⟩, ⟨⟨e2, f2⟩, ⟨g2, h2⟩⟩, ⟨⟨e3, f3⟩, ⟨g3, h3⟩⟩⟩ = .ok ⟨⟨n1, n2⟩, ⟨n3, n4⟩⟩ := by simp only [starD, one1, S0, HR17.out, HR18.out, Out.binds]
      go_wp2_with fail
      go_meet
      exact ⟨_, _, _, _, _, rfl, HEQ, by have := HD19.size; first | omega | (simp; done) | (simp; omega), kE19, HD19⟩
    refine AllReadyH.cons (o := _) rfl (fun K hK => ?_) AllReadyH.nil
    have HD20 : Below W.heap.size W (W.drew.alloc (Obj.cells #[.int .i64 0, .int .i64 0, .int .i64 0, .int .i64 0] 25)) := bal HD1 _
    go_simp
    refine hK.out _ _ (G0.out _ HD20) (fun hHeld => ?_)
    clear hK K
    try simp only [act_all]
    refine wpAnyH_ready (rs := [0]) (by kernel_rfl) (by simp) ?_
    refine AllReadyH.cons (o := _) rfl (fun K hK => ?_) AllReadyH.nil
    go_simp
    refine ((whole_any 1 _ (by omega) (by omega)).mono (fun e w' h => (by rw [show (1 : Int) * 1073741824 = 1073741824 from rfl] at h; exact h : e = retS ⟨1073741824, 1073741824⟩ ∧ Below _ _ w'))).mono ?_
    rintro e w21 ⟨he, hb⟩
    have HD21 : Below W.heap.size W w21 := HD20.trans (hb.mono HD20.size)
    have kD21 : w21.heap[W.heap.size]? = some (.cells #[.int .i64 0, .int .i64 0, .int .i64 0, .int .i64 0] 25 (0, 0)) := (hb.block _ (by first | omega | (simp; done) | (simp; omega))).trans (heap_alloc_new W.drew _)
    have hz21 := hb.size
    (try simp at hz21)
    clear hb hHeld 
    obtain rfl : e = .returned (.agg #[.int .i64 1073741824, .int .i64 1073741824]) := he
    refine hK.out _ _ (G0.out _ HD21) (fun hHeld => ?_)
    clear hK K
    try simp only [act_all]
    refine wpAnyH_ready (rs := [1]) (by kernel_rfl) (by simp) ?_
    refine AllReadyH.cons (o := _) rfl (fun K hK => ?_) AllReadyH.nil
    go_simp
    refine (onAxis_any 1073741824 1073741824 _).mono ?_
    rintro e w22 ⟨he, hb⟩
    have HD22 : Below W.heap.size W w22 := HD21.trans (hb.mono HD21.size)
    have kD22 : w22.heap[W.heap.size]? = some (.cells #[.int .i64 0, .int .i64 0, .int .i64 0, .int .i64 0] 25 (0, 0)) := (hb.block _ (by first | omega | (simp; done) | (simp; omega))).trans kD21
    have hz22 := hb.size
    (try simp at hz22)
    clear hb hHeld kD21
    obtain rfl : e = .returned (.agg #[.int .i64 1073741824, .int .i64 1073741824, .int .i64 0, .int .i64 0]) := he
    refine hK.out _ _ (G0.out _ HD22) (fun hHeld => ?_)
    clear hK K
    try simp only [act_all]
    refine wpAnyH_ready (rs := [8]) (by kernel_rfl) (by simp) ?_
    refine AllReadyH.cons (o := _) rfl (fun K hK => ?_) AllReadyH.nil
    go_simp
    refine (mulRect_any a3 b3 c3 d3 e0 f0 g0 h0 _ HP3.out.1 HP3.out.2 HQ0.out.1 HQ0.out.2).mono ?_
    rintro e w23 ⟨he, hb⟩
    have HD23 : Below W.heap.size W w23 := HD22.trans (hb.mono HD22.size)
    have kD23 : w23.heap[W.heap.size]? = some (.cells #[.int .i64 0, .int .i64 0, .int .i64 0, .int .i64 0] 25 (0, 0)) := (hb.block _ (by first | omega | (simp; done) | (simp; omega))).trans kD22
    have hz23 := hb.size
    (try simp at hz23)
    clear hb hHeld kD22
    obtain ⟨r, hr⟩ : ∃ r, (mulR ⟨⟨a3, b3⟩, ⟨c3, d3⟩⟩ ⟨⟨e0, f0⟩, ⟨g0, h0⟩⟩) = r := ⟨_, rfl⟩
    rw [hr] at he
    have HR23 := Lib.hid hr
    clear hr
    rcases r with ⟨⟨m1, m2⟩, ⟨m3, m4⟩⟩ | k
    case' bad =>
      obtain rfl : e = .panicked [{ v := .iface 26 (.int .i64 k), recovered := false }] := he
      refine ⟨rfl, ?_, HB0.out.trans (HD23.mono (by omega))⟩
      rw [← HSP.out]; simp only [starR, starD, one1, S0, HR23.out, Out.binds, IsO]; (try rfl)
    obtain rfl : e = .returned (.agg #[.int .i64 m1, .int .i64 m2, .int .i64 m3, .int .i64 m4]) := he
    have HO23 := Lib.hid ((okR_iff _).1 (mulR_ok HR23.out))
    refine hK.out _ _ (G0.out _ HD23) (fun hHeld => ?_)
    clear hK K
    try simp only [act_all]
    refine wpAnyH_ready (rs := [9]) (by kernel_rfl) (by simp) ?_
    refine AllReadyH.cons (o := _) rfl (fun K hK => ?_) AllReadyH.nil
    go_simp
    refine (subRect_any 1073741824 1073741824 0 0 m1 m2 m3 m4 _ h1k.out h0k.out HO23.out.1 HO23.out.2).mono ?_
    rintro e w24 ⟨he, hb⟩
    have HD24 : Below W.heap.size W w24 := HD23.trans (hb.mono HD23.size)
    have kD24 : w24.heap[W.heap.size]? = some (.cells #[.int .i64 0, .int .i64 0, .int .i64 0, .int .i64 0] 25 (0, 0)) := (hb.block _ (by first | omega | (simp; done) | (simp; omega))).trans kD23
    have hz24 := hb.size
    (try simp at hz24)
    clear hb hHeld kD23
    obtain ⟨r, hr⟩ : ∃ r, (subR ⟨⟨1073741824, 1073741824⟩, ⟨0, 0⟩⟩ ⟨⟨m1, m2⟩, ⟨m3, m4⟩⟩) = r := ⟨_, rfl⟩
    rw [hr] at he
    have HR24 := Lib.hid hr
    clear hr
    rcases r with ⟨⟨n1, n2⟩, ⟨n3, n4⟩⟩ | k
    case' bad =>
      obtain rfl : e = .panicked [{ v := .iface 26 (.int .i64 k), recovered := false }] := he
      refine ⟨rfl, ?_, HB0.out.trans (HD24.mono (by omega))⟩
      rw [← HSP.out]; simp only [starR, starD, one1, S0, HR23.out, HR24.out, Out.binds, IsO]; (try rfl)
    obtain rfl : e = .returned (.agg #[.int .i64 n1, .int .i64 n2, .int .i64 n3, .int .i64 n4]) := he
    have HO24 := Lib.hid ((okR_iff _).1 (subR_ok HR24.out))
    refine hK.out _ _ (G0.out _ HD24) (fun hHeld => ?_)
    clear hK K
    try simp only [act_all]
    refine wpAnyH_ready (rs := [11]) (by kernel_rfl) (by simp) ?_
    refine AllReadyH.cons (o := _) rfl (fun K hK => ?_) AllReadyH.nil
    have kD25 : w24.heap[W.heap.size]? = some (.cells #[.int .i64 0, .int .i64 0, .int .i64 0, .int .i64 0] 25 (0, 0)) := kD24
    have HTH := Lib.hid (there_mid kD25 0 4 (by decide))
    have HD25 : Below W.heap.size W (w24.setCells (W.heap.size) 0 [.int .i64 n1, .int .i64 n2, .int .i64 n3, .int .i64 n4]) := below_mids (by have := HD24.size; first | omega | (simp; done) | (simp; omega)) _ _ HD24
    have kE25 : (w24.setCells (W.heap.size) 0 [.int .i64 n1, .int .i64 n2, .int .i64 n3, .int .i64 n4]).heap[W.heap.size]? = some (.cells #[.int .i64 n1, .int .i64 n2, .int .i64 n3, .int .i64 n4] 25 (0, 0)) := block_setCells [.int .i64 n1, .int .i64 n2, .int .i64 n3, .int .i64 n4] 0 _ _ kD25
    rw [if_pos (show Region.wanted _ _ = true from rfl)]
    refine wp_store_mid 25 (.tmp 5) (.tmp 16) rfl (W.heap.size) 0 #[.int .i64 n1, .int .i64 n2, .int .i64 n3, .int .i64 n4] rfl rfl HTH.out (by kernel_rfl) (by simp [Value.oneCell']) ?_
    rw [show (#[.int .i64 n1, .int .i64 n2, .int .i64 n3, .int .i64 n4] : Array Value).toList = [.int .i64 n1, .int .i64 n2, .int .i64 n3, .int .i64 n4] from rfl]
    refine hK.out _ _ (G0.out _ HD25) (fun hHeld => ?_)
    clear hK K
    try simp only [act_all]
    refine wpAnyH_done (by kernel_rfl) ?_ _
    have HEQ : starD ⟨⟨⟨a0, b0⟩, ⟨c0, d0⟩⟩, ⟨⟨a1, b1⟩, ⟨c1, d1⟩⟩, ⟨⟨a2, b2⟩, ⟨c2, d2⟩⟩, ⟨⟨a3, b3⟩, ⟨c3, d3⟩⟩⟩ ⟨⟨⟨e0, f0⟩, ⟨g0, h0⟩⟩, ⟨⟨e1, f1⟩, ⟨g1, h1⟩⟩, ⟨⟨e2, f2⟩, ⟨g2, h2⟩⟩, ⟨⟨e3, f3⟩, ⟨g3, h3⟩⟩⟩ = .ok ⟨⟨n1, n2⟩, ⟨n3, n4⟩⟩ := by simp only [starD, one1, S0, HR23.out, HR24.out, Out.binds]
    go_wp2_with fail
    go_meet
    exact ⟨_, _, _, _, _, rfl, HEQ, by have := HD25.size; first | omega | (simp; done) | (simp; omega), kE25, HD25⟩
  case rest =>
    obtain ⟨DB, n1, n2, n3, n4, rfl, hdd, lD0, bD, hK⟩ := hcut
    have HDD := Lib.hid hdd
    have HOD := Lib.hid ((okR_iff _).1 (by obtain ⟨_, _, h2⟩ := bind_okI hdd; exact subR_ok h2))
    clear hdd
    obtain ⟨bP, bQ⟩ := G0.out _ hK
    have bT := G1.out _ hK
    have bb0 := HB0.out.trans (hK.mono (by omega))
    have lW : W.heap.size ≤ wc.heap.size := hK.size
    have lD : DB < wc.heap.size := (Array.getElem?_eq_some_iff.1 bD).1
    clear G0 G1 hK HB0 RAP3 RAQ0
    go_upto_region 3 with fail
    have hbV : Below wc.heap.size wc (wc.alloc (Obj.cells #[.int .i64 0, .int .i64 0, .int .i64 0, .int .i64 0, .int .i64 0, .int .i64 0, .int .i64 0, .int .i64 0, .int .i64 0, .int .i64 0, .int .i64 0, .int .i64 0, .int .i64 0, .int .i64 0, .int .i64 0, .int .i64 0] 47)) := bal (Below.refl _ _) _
    have bb1 : Below w.heap.size w (wc.alloc (Obj.cells #[.int .i64 0, .int .i64 0, .int .i64 0, .int .i64 0, .int .i64 0, .int .i64 0, .int .i64 0, .int .i64 0, .int .i64 0, .int .i64 0, .int .i64 0, .int .i64 0, .int .i64 0, .int .i64 0, .int .i64 0, .int .i64 0] 47)) := bb0.trans (hbV.mono (by omega))
    have cP : (wc.alloc (Obj.cells #[.int .i64 0, .int .i64 0, .int .i64 0, .int .i64 0, .int .i64 0, .int .i64 0, .int .i64 0, .int .i64 0, .int .i64 0, .int .i64 0, .int .i64 0, .int .i64 0, .int .i64 0, .int .i64 0, .int .i64 0, .int .i64 0] 47)).heap[w.heap.size]? = some (.cells #[.int .i64 a0, .int .i64 b0, .int .i64 c0, .int .i64 d0, .int .i64 a1, .int .i64 b1, .int .i64 c1, .int .i64 d1, .int .i64 a2, .int .i64 b2, .int .i64 c2, .int .i64 d2, .int .i64 a3, .int .i64 b3, .int .i64 c3, .int .i64 d3] 47 (0, 0)) := (hbV.block _ (by omega)).trans bP
    have cQ : (wc.alloc (Obj.cells #[.int .i64 0, .int .i64 0, .int .i64 0, .int .i64 0, .int .i64 0, .int .i64 0, .int .i64 0, .int .i64 0, .int .i64 0, .int .i64 0, .int .i64 0, .int .i64 0, .int .i64 0, .int .i64 0, .int .i64 0, .int .i64 0] 47)).heap[w.heap.size + 1]? = some (.cells #[.int .i64 e0, .int .i64 f0, .int .i64 g0, .int .i64 h0, .int .i64 e1, .int .i64 f1, .int .i64 g1, .int .i64 h1, .int .i64 e2, .int .i64 f2, .int .i64 g2, .int .i64 h2, .int .i64 e3, .int .i64 f3, .int .i64 g3, .int .i64 h3] 47 (0, 0)) := (hbV.block _ (by omega)).trans bQ
    have cT : (wc.alloc (Obj.cells #[.int .i64 0, .int .i64 0, .int .i64 0, .int .i64 0, .int .i64 0, .int .i64 0, .int .i64 0, .int .i64 0, .int .i64 0, .int .i64 0, .int .i64 0, .int .i64 0, .int .i64 0, .int .i64 0, .int .i64 0, .int .i64 0] 47)).heap[w.heap.size + 1 + 1]? = some (.cells #[.int .i64 0, .int .i64 0, .int .i64 0, .int .i64 0, .int .i64 0, .int .i64 0, .int .i64 0, .int .i64 0, .int .i64 0, .int .i64 0, .int .i64 0, .int .i64 0, .int .i64 0, .int .i64 0, .int .i64 0, .int .i64 0] 49 (0, 0)) := (hbV.block _ (by omega)).trans bT
    have cD : (wc.alloc (Obj.cells #[.int .i64 0, .int .i64 0, .int .i64 0, .int .i64 0, .int .i64 0, .int .i64 0, .int .i64 0, .int .i64 0, .int .i64 0, .int .i64 0, .int .i64 0, .int .i64 0, .int .i64 0, .int .i64 0, .int .i64 0, .int .i64 0] 47)).heap[DB]? = some (.cells #[.int .i64 n1, .int .i64 n2, .int .i64 n3, .int .i64 n4] 25 (0, 0)) := (hbV.block _ (by omega)).trans bD
    have cS : (wc.alloc (Obj.cells #[.int .i64 0, .int .i64 0, .int .i64 0, .int .i64 0, .int .i64 0, .int .i64 0, .int .i64 0, .int .i64 0, .int .i64 0, .int .i64 0, .int .i64 0, .int .i64 0, .int .i64 0, .int .i64 0, .int .i64 0, .int .i64 0] 47)).heap[wc.heap.size]? = some (.cells #[.int .i64 0, .int .i64 0, .int .i64 0, .int .i64 0, .int .i64 0, .int .i64 0, .int .i64 0, .int .i64 0, .int .i64 0, .int .i64 0, .int .i64 0, .int .i64 0, .int .i64 0, .int .i64 0, .int .i64 0, .int .i64 0] 47 (0, 0)) := heap_alloc_new wc _
    have lV : wc.heap.size < (wc.alloc (Obj.cells #[.int .i64 0, .int .i64 0, .int .i64 0, .int .i64 0, .int .i64 0, .int .i64 0, .int .i64 0, .int .i64 0, .int .i64 0, .int .i64 0, .int .i64 0, .int .i64 0, .int .i64 0, .int .i64 0, .int .i64 0, .int .i64 0] 47)).heap.size := by simp
    have lp1 : w.heap.size < wc.heap.size := by omega
    have lp2 : w.heap.size + 1 < wc.heap.size := by omega
    have lp3 : w.heap.size + 1 + 1 < wc.heap.size := by omega
    clear hbV bb0 bP bQ bT bD
    generalize (wc.alloc (Obj.cells #[.int .i64 0, .int .i64 0, .int .i64 0, .int .i64 0, .int .i64 0, .int .i64 0, .int .i64 0, .int .i64 0, .int .i64 0, .int .i64 0, .int .i64 0, .int .i64 0, .int .i64 0, .int .i64 0, .int .i64 0, .int .i64 0] 47)) = V at *
    generalize wc.heap.size = SB at *
    have G0 : Hid (∀ w' : World, Below SB V w' → w'.heap[w.heap.size]? = some (.cells #[.int .i64 a0, .int .i64 b0, .int .i64 c0, .int .i64 d0, .int .i64 a1, .int .i64 b1, .int .i64 c1, .int .i64 d1, .int .i64 a2, .int .i64 b2, .int .i64 c2, .int .i64 d2, .int .i64 a3, .int .i64 b3, .int .i64 c3, .int .i64 d3] 47 (0, 0)) ∧ w'.heap[w.heap.size + 1]? = some (.cells #[.int .i64 e0, .int .i64 f0, .int .i64 g0, .int .i64 h0, .int .i64 e1, .int .i64 f1, .int .i64 g1, .int .i64 h1, .int .i64 e2, .int .i64 f2, .int .i64 g2, .int .i64 h2, .int .i64 e3, .int .i64 f3, .int .i64 g3, .int .i64 h3] 47 (0, 0)) ∧ w'.heap[DB]? = some (.cells #[.int .i64 n1, .int .i64 n2, .int .i64 n3, .int .i64 n4] 25 (0, 0))) := Lib.hid (fun w' hb => ⟨(hb.block _ lp1).trans cP, (hb.block _ lp2).trans cQ, (hb.block _ lD).trans cD⟩)
    have G1 : Hid (∀ w' : World, Below SB V w' → w'.heap[w.heap.size + 1 + 1]? = some (.cells #[.int .i64 0, .int .i64 0, .int .i64 0, .int .i64 0, .int .i64 0, .int .i64 0, .int .i64 0, .int .i64 0, .int .i64 0, .int .i64 0, .int .i64 0, .int .i64 0, .int .i64 0, .int .i64 0, .int .i64 0, .int .i64 0] 49 (0, 0))) := Lib.hid (fun w' hb => (hb.block _ lp3).trans cT)
    have HB0 := Lib.hid bb1
    clear bb1 cP cQ cD cT
    have RBP0 : Hid (∀ w' : World, (w'.heap[w.heap.size]? = some (.cells #[.int .i64 a0, .int .i64 b0, .int .i64 c0, .int .i64 d0, .int .i64 a1, .int .i64 b1, .int .i64 c1, .int .i64 d1, .int .i64 a2, .int .i64 b2, .int .i64 c2, .int .i64 d2, .int .i64 a3, .int .i64 b3, .int .i64 c3, .int .i64 d3] 47 (0, 0)) ∧ w'.heap[w.heap.size + 1]? = some (.cells #[.int .i64 e0, .int .i64 f0, .int .i64 g0, .int .i64 h0, .int .i64 e1, .int .i64 f1, .int .i64 g1, .int .i64 h1, .int .i64 e2, .int .i64 f2, .int .i64 g2, .int .i64 h2, .int .i64 e3, .int .i64 f3, .int .i64 g3, .int .i64 h3] 47 (0, 0)) ∧ w'.heap[DB]? = some (.cells #[.int .i64 n1, .int .i64 n2, .int .i64 n3, .int .i64 n4] 25 (0, 0))) → w'.rangeAt (w.heap.size) 0 [.int .i64 a0, .int .i64 b0, .int .i64 c0, .int .i64 d0]) := Lib.hid (fun w' h => range_row h.1 0 [.int .i64 a0, .int .i64 b0, .int .i64 c0, .int .i64 d0] (fun j hj => by
      rcases four_at (by simpa using hj) with rfl | rfl | rfl | rfl <;> rfl))
    have RBP1 : Hid (∀ w' : World, (w'.heap[w.heap.size]? = some (.cells #[.int .i64 a0, .int .i64 b0, .int .i64 c0, .int .i64 d0, .int .i64 a1, .int .i64 b1, .int .i64 c1, .int .i64 d1, .int .i64 a2, .int .i64 b2, .int .i64 c2, .int .i64 d2, .int .i64 a3, .int .i64 b3, .int .i64 c3, .int .i64 d3] 47 (0, 0)) ∧ w'.heap[w.heap.size + 1]? = some (.cells #[.int .i64 e0, .int .i64 f0, .int .i64 g0, .int .i64 h0, .int .i64 e1, .int .i64 f1, .int .i64 g1, .int .i64 h1, .int .i64 e2, .int .i64 f2, .int .i64 g2, .int .i64 h2, .int .i64 e3, .int .i64 f3, .int .i64 g3, .int .i64 h3] 47 (0, 0)) ∧ w'.heap[DB]? = some (.cells #[.int .i64 n1, .int .i64 n2, .int .i64 n3, .int .i64 n4] 25 (0, 0))) → w'.rangeAt (w.heap.size) 4 [.int .i64 a1, .int .i64 b1, .int .i64 c1, .int .i64 d1]) := Lib.hid (fun w' h => range_row h.1 4 [.int .i64 a1, .int .i64 b1, .int .i64 c1, .int .i64 d1] (fun j hj => by
      rcases four_at (by simpa using hj) with rfl | rfl | rfl | rfl <;> rfl))
    have RBP2 : Hid (∀ w' : World, (w'.heap[w.heap.size]? = some (.cells #[.int .i64 a0, .int .i64 b0, .int .i64 c0, .int .i64 d0, .int .i64 a1, .int .i64 b1, .int .i64 c1, .int .i64 d1, .int .i64 a2, .int .i64 b2, .int .i64 c2, .int .i64 d2, .int .i64 a3, .int .i64 b3, .int .i64 c3, .int .i64 d3] 47 (0, 0)) ∧ w'.heap[w.heap.size + 1]? = some (.cells #[.int .i64 e0, .int .i64 f0, .int .i64 g0, .int .i64 h0, .int .i64 e1, .int .i64 f1, .int .i64 g1, .int .i64 h1, .int .i64 e2, .int .i64 f2, .int .i64 g2, .int .i64 h2, .int .i64 e3, .int .i64 f3, .int .i64 g3, .int .i64 h3] 47 (0, 0)) ∧ w'.heap[DB]? = some (.cells #[.int .i64 n1, .int .i64 n2, .int .i64 n3, .int .i64 n4] 25 (0, 0))) → w'.rangeAt (w.heap.size) 8 [.int .i64 a2, .int .i64 b2, .int .i64 c2, .int .i64 d2]) := Lib.hid (fun w' h => range_row h.1 8 [.int .i64 a2, .int .i64 b2, .int .i64 c2, .int .i64 d2] (fun j hj => by
      rcases four_at (by simpa using hj) with rfl | rfl | rfl | rfl <;> rfl))
    have RBP3 : Hid (∀ w' : World, (w'.heap[w.heap.size]? = some (.cells #[.int .i64 a0, .int .i64 b0, .int .i64 c0, .int .i64 d0, .int .i64 a1, .int .i64 b1, .int .i64 c1, .int .i64 d1, .int .i64 a2, .int .i64 b2, .int .i64 c2, .int .i64 d2, .int .i64 a3, .int .i64 b3, .int .i64 c3, .int .i64 d3] 47 (0, 0)) ∧ w'.heap[w.heap.size + 1]? = some (.cells #[.int .i64 e0, .int .i64 f0, .int .i64 g0, .int .i64 h0, .int .i64 e1, .int .i64 f1, .int .i64 g1, .int .i64 h1, .int .i64 e2, .int .i64 f2, .int .i64 g2, .int .i64 h2, .int .i64 e3, .int .i64 f3, .int .i64 g3, .int .i64 h3] 47 (0, 0)) ∧ w'.heap[DB]? = some (.cells #[.int .i64 n1, .int .i64 n2, .int .i64 n3, .int .i64 n4] 25 (0, 0))) → w'.rangeAt (w.heap.size) 12 [.int .i64 a3, .int .i64 b3, .int .i64 c3, .int .i64 d3]) := Lib.hid (fun w' h => range_row h.1 12 [.int .i64 a3, .int .i64 b3, .int .i64 c3, .int .i64 d3] (fun j hj => by
      rcases four_at (by simpa using hj) with rfl | rfl | rfl | rfl <;> rfl))
    have RBQ0 : Hid (∀ w' : World, (w'.heap[w.heap.size]? = some (.cells #[.int .i64 a0, .int .i64 b0, .int .i64 c0, .int .i64 d0, .int .i64 a1, .int .i64 b1, .int .i64 c1, .int .i64 d1, .int .i64 a2, .int .i64 b2, .int .i64 c2, .int .i64 d2, .int .i64 a3, .int .i64 b3, .int .i64 c3, .int .i64 d3] 47 (0, 0)) ∧ w'.heap[w.heap.size + 1]? = some (.cells #[.int .i64 e0, .int .i64 f0, .int .i64 g0, .int .i64 h0, .int .i64 e1, .int .i64 f1, .int .i64 g1, .int .i64 h1, .int .i64 e2, .int .i64 f2, .int .i64 g2, .int .i64 h2, .int .i64 e3, .int .i64 f3, .int .i64 g3, .int .i64 h3] 47 (0, 0)) ∧ w'.heap[DB]? = some (.cells #[.int .i64 n1, .int .i64 n2, .int .i64 n3, .int .i64 n4] 25 (0, 0))) → w'.rangeAt (w.heap.size + 1) 0 [.int .i64 e0, .int .i64 f0, .int .i64 g0, .int .i64 h0]) := Lib.hid (fun w' h => range_row h.2.1 0 [.int .i64 e0, .int .i64 f0, .int .i64 g0, .int .i64 h0] (fun j hj => by
      rcases four_at (by simpa using hj) with rfl | rfl | rfl | rfl <;> rfl))
    have RBQ1 : Hid (∀ w' : World, (w'.heap[w.heap.size]? = some (.cells #[.int .i64 a0, .int .i64 b0, .int .i64 c0, .int .i64 d0, .int .i64 a1, .int .i64 b1, .int .i64 c1, .int .i64 d1, .int .i64 a2, .int .i64 b2, .int .i64 c2, .int .i64 d2, .int .i64 a3, .int .i64 b3, .int .i64 c3, .int .i64 d3] 47 (0, 0)) ∧ w'.heap[w.heap.size + 1]? = some (.cells #[.int .i64 e0, .int .i64 f0, .int .i64 g0, .int .i64 h0, .int .i64 e1, .int .i64 f1, .int .i64 g1, .int .i64 h1, .int .i64 e2, .int .i64 f2, .int .i64 g2, .int .i64 h2, .int .i64 e3, .int .i64 f3, .int .i64 g3, .int .i64 h3] 47 (0, 0)) ∧ w'.heap[DB]? = some (.cells #[.int .i64 n1, .int .i64 n2, .int .i64 n3, .int .i64 n4] 25 (0, 0))) → w'.rangeAt (w.heap.size + 1) 4 [.int .i64 e1, .int .i64 f1, .int .i64 g1, .int .i64 h1]) := Lib.hid (fun w' h => range_row h.2.1 4 [.int .i64 e1, .int .i64 f1, .int .i64 g1, .int .i64 h1] (fun j hj => by
      rcases four_at (by simpa using hj) with rfl | rfl | rfl | rfl <;> rfl))
    have RBQ2 : Hid (∀ w' : World, (w'.heap[w.heap.size]? = some (.cells #[.int .i64 a0, .int .i64 b0, .int .i64 c0, .int .i64 d0, .int .i64 a1, .int .i64 b1, .int .i64 c1, .int .i64 d1, .int .i64 a2, .int .i64 b2, .int .i64 c2, .int .i64 d2, .int .i64 a3, .int .i64 b3, .int .i64 c3, .int .i64 d3] 47 (0, 0)) ∧ w'.heap[w.heap.size + 1]? = some (.cells #[.int .i64 e0, .int .i64 f0, .int .i64 g0, .int .i64 h0, .int .i64 e1, .int .i64 f1, .int .i64 g1, .int .i64 h1, .int .i64 e2, .int .i64 f2, .int .i64 g2, .int .i64 h2, .int .i64 e3, .int .i64 f3, .int .i64 g3, .int .i64 h3] 47 (0, 0)) ∧ w'.heap[DB]? = some (.cells #[.int .i64 n1, .int .i64 n2, .int .i64 n3, .int .i64 n4] 25 (0, 0))) → w'.rangeAt (w.heap.size + 1) 8 [.int .i64 e2, .int .i64 f2, .int .i64 g2, .int .i64 h2]) := Lib.hid (fun w' h => range_row h.2.1 8 [.int .i64 e2, .int .i64 f2, .int .i64 g2, .int .i64 h2] (fun j hj => by
      rcases four_at (by simpa using hj) with rfl | rfl | rfl | rfl <;> rfl))
    have RBQ3 : Hid (∀ w' : World, (w'.heap[w.heap.size]? = some (.cells #[.int .i64 a0, .int .i64 b0, .int .i64 c0, .int .i64 d0, .int .i64 a1, .int .i64 b1, .int .i64 c1, .int .i64 d1, .int .i64 a2, .int .i64 b2, .int .i64 c2, .int .i64 d2, .int .i64 a3, .int .i64 b3, .int .i64 c3, .int .i64 d3] 47 (0, 0)) ∧ w'.heap[w.heap.size + 1]? = some (.cells #[.int .i64 e0, .int .i64 f0, .int .i64 g0, .int .i64 h0, .int .i64 e1, .int .i64 f1, .int .i64 g1, .int .i64 h1, .int .i64 e2, .int .i64 f2, .int .i64 g2, .int .i64 h2, .int .i64 e3, .int .i64 f3, .int .i64 g3, .int .i64 h3] 47 (0, 0)) ∧ w'.heap[DB]? = some (.cells #[.int .i64 n1, .int .i64 n2, .int .i64 n3, .int .i64 n4] 25 (0, 0))) → w'.rangeAt (w.heap.size + 1) 12 [.int .i64 e3, .int .i64 f3, .int .i64 g3, .int .i64 h3]) := Lib.hid (fun w' h => range_row h.2.1 12 [.int .i64 e3, .int .i64 f3, .int .i64 g3, .int .i64 h3] (fun j hj => by
      rcases four_at (by simpa using hj) with rfl | rfl | rfl | rfl <;> rfl))
    have RBD : Hid (∀ w' : World, (w'.heap[w.heap.size]? = some (.cells #[.int .i64 a0, .int .i64 b0, .int .i64 c0, .int .i64 d0, .int .i64 a1, .int .i64 b1, .int .i64 c1, .int .i64 d1, .int .i64 a2, .int .i64 b2, .int .i64 c2, .int .i64 d2, .int .i64 a3, .int .i64 b3, .int .i64 c3, .int .i64 d3] 47 (0, 0)) ∧ w'.heap[w.heap.size + 1]? = some (.cells #[.int .i64 e0, .int .i64 f0, .int .i64 g0, .int .i64 h0, .int .i64 e1, .int .i64 f1, .int .i64 g1, .int .i64 h1, .int .i64 e2, .int .i64 f2, .int .i64 g2, .int .i64 h2, .int .i64 e3, .int .i64 f3, .int .i64 g3, .int .i64 h3] 47 (0, 0)) ∧ w'.heap[DB]? = some (.cells #[.int .i64 n1, .int .i64 n2, .int .i64 n3, .int .i64 n4] 25 (0, 0))) → w'.rangeAt (DB) 0 [.int .i64 n1, .int .i64 n2, .int .i64 n3, .int .i64 n4]) := Lib.hid (fun w' h => range_row h.2.2 0 [.int .i64 n1, .int .i64 n2, .int .i64 n3, .int .i64 n4] (fun j hj => by
      rcases four_at (by simpa using hj) with rfl | rfl | rfl | rfl <;> rfl))
    have HD0 : Below SB V V := Below.refl _ _
    go_cut [] (fun wx => ∃ s1 s2 s3 s4 : Int, starT ⟨⟨a0, b0⟩, ⟨c0, d0⟩⟩ ⟨⟨a1, b1⟩, ⟨c1, d1⟩⟩ ⟨⟨e0, f0⟩, ⟨g0, h0⟩⟩ ⟨⟨a2, b2⟩, ⟨c2, d2⟩⟩ ⟨⟨n1, n2⟩, ⟨n3, n4⟩⟩ = .ok ⟨⟨s1, s2⟩, ⟨s3, s4⟩⟩ ∧ wx.heap[SB]? = some (.cells #[.int .i64 s1, .int .i64 s2, .int .i64 s3, .int .i64 s4, .int .i64 0, .int .i64 0, .int .i64 0, .int .i64 0, .int .i64 0, .int .i64 0, .int .i64 0, .int .i64 0, .int .i64 0, .int .i64 0, .int .i64 0, .int .i64 0] 47 (0, 0)) ∧ Below SB V wx)
    case first =>
      have HD26 : Below SB V V.drew := HD0.drew
      refine wp_region_held_drew (S := fun w' => w'.heap[w.heap.size]? = some (.cells #[.int .i64 a0, .int .i64 b0, .int .i64 c0, .int .i64 d0, .int .i64 a1, .int .i64 b1, .int .i64 c1, .int .i64 d1, .int .i64 a2, .int .i64 b2, .int .i64 c2, .int .i64 d2, .int .i64 a3, .int .i64 b3, .int .i64 c3, .int .i64 d3] 47 (0, 0)) ∧ w'.heap[w.heap.size + 1]? = some (.cells #[.int .i64 e0, .int .i64 f0, .int .i64 g0, .int .i64 h0, .int .i64 e1, .int .i64 f1, .int .i64 g1, .int .i64 h1, .int .i64 e2, .int .i64 f2, .int .i64 g2, .int .i64 h2, .int .i64 e3, .int .i64 f3, .int .i64 g3, .int .i64 h3] 47 (0, 0)) ∧ w'.heap[DB]? = some (.cells #[.int .i64 n1, .int .i64 n2, .int .i64 n3, .int .i64 n4] 25 (0, 0))) (by kernel_rfl) (G0.out _ HD26) (fun hHeld => ?_)
      refine wpAnyH_take (i := 0) (oi := _) (v := ?_) rfl (by kernel_rfl) (by kernel_rfl) (by kernel_rfl) (fun _ _ _ h => h) (Or.inl ⟨by rfl, ?_⟩) (by assumption) ?_
      rotate_left
      · intro w _; go_simp; (try with_reducible rfl)
      try change wpAnyH _ _ _ _ _ _ _ (Act.put _ (some 17) _) _
      try simp only [act_all]
      refine wpAnyH_take (i := 1) (oi := _) (v := ?_) rfl (by kernel_rfl) (by kernel_rfl) (by kernel_rfl) (fun _ _ _ h => h) (Or.inl ⟨by rfl, ?_⟩) (by assumption) ?_
      rotate_left
      · intro w _; go_simp; (try with_reducible rfl)
      try change wpAnyH _ _ _ _ _ _ _ (Act.put _ (some 18) _) _
      try simp only [act_all]
      refine wpAnyH_take (i := 2) (oi := _) (v := _) rfl (by kernel_rfl) (by kernel_rfl) (by kernel_rfl) (fun _ _ _ h => h) (yieldsIf_load_mid (by rfl) 25 _ rfl (w.heap.size) 0 rfl [.int .i64 a0, .int .i64 b0, .int .i64 c0, .int .i64 d0] _ RBP0.out Try.underlying25 rfl (by kernel_rfl)) (by assumption) ?_
      try change wpAnyH _ _ _ _ _ _ _ (Act.put _ (some 19) _) _
      try simp only [act_all]
      refine wpAnyH_take (i := 3) (oi := _) (v := ?_) rfl (by kernel_rfl) (by kernel_rfl) (by kernel_rfl) (fun _ _ _ h => h) (Or.inl ⟨by rfl, ?_⟩) (by assumption) ?_
      rotate_left
      · intro w _; go_simp; (try with_reducible rfl)
      try change wpAnyH _ _ _ _ _ _ _ (Act.put _ (some 20) _) _
      try simp only [act_all]
      refine wpAnyH_take (i := 4) (oi := _) (v := ?_) rfl (by kernel_rfl) (by kernel_rfl) (by kernel_rfl) (fun _ _ _ h => h) (Or.inl ⟨by rfl, ?_⟩) (by assumption) ?_
      rotate_left
      · intro w _; go_simp; (try with_reducible rfl)
      try change wpAnyH _ _ _ _ _ _ _ (Act.put _ (some 21) _) _
      try simp only [act_all]
      refine wpAnyH_take (i := 5) (oi := _) (v := _) rfl (by kernel_rfl) (by kernel_rfl) (by kernel_rfl) (fun _ _ _ h => h) (yieldsIf_load_mid (by rfl) 25 _ rfl (w.heap.size) 4 rfl [.int .i64 a1, .int .i64 b1, .int .i64 c1, .int .i64 d1] _ RBP1.out Try.underlying25 rfl (by kernel_rfl)) (by assumption) ?_
      try change wpAnyH _ _ _ _ _ _ _ (Act.put _ (some 22) _) _
      try simp only [act_all]
      refine wpAnyH_take (i := 6) (oi := _) (v := ?_) rfl (by kernel_rfl) (by kernel_rfl) (by kernel_rfl) (fun _ _ _ h => h) (Or.inl ⟨by rfl, ?_⟩) (by assumption) ?_
      rotate_left
      · intro w _; go_simp; (try with_reducible rfl)
      try change wpAnyH _ _ _ _ _ _ _ (Act.put _ (some 23) _) _
      try simp only [act_all]
      refine wpAnyH_take (i := 7) (oi := _) (v := ?_) rfl (by kernel_rfl) (by kernel_rfl) (by kernel_rfl) (fun _ _ _ h => h) (Or.inl ⟨by rfl, ?_⟩) (by assumption) ?_
      rotate_left
      · intro w _; go_simp; (try with_reducible rfl)
      try change wpAnyH _ _ _ _ _ _ _ (Act.put _ (some 24) _) _
      try simp only [act_all]
      refine wpAnyH_take (i := 8) (oi := _) (v := _) rfl (by kernel_rfl) (by kernel_rfl) (by kernel_rfl) (fun _ _ _ h => h) (yieldsIf_load_mid (by rfl) 25 _ rfl (w.heap.size + 1) 0 rfl [.int .i64 e0, .int .i64 f0, .int .i64 g0, .int .i64 h0] _ RBQ0.out Try.underlying25 rfl (by kernel_rfl)) (by assumption) ?_
      try change wpAnyH _ _ _ _ _ _ _ (Act.put _ (some 25) _) _
      try simp only [act_all]
      refine wpAnyH_take (i := 10) (oi := _) (v := ?_) rfl (by kernel_rfl) (by kernel_rfl) (by kernel_rfl) (fun _ _ _ h => h) (Or.inl ⟨by rfl, ?_⟩) (by assumption) ?_
      rotate_left
      · intro w _; go_simp; (try with_reducible rfl)
      try change wpAnyH _ _ _ _ _ _ _ (Act.put _ (some 27) _) _
      try simp only [act_all]
      refine wpAnyH_take (i := 11) (oi := _) (v := ?_) rfl (by kernel_rfl) (by kernel_rfl) (by kernel_rfl) (fun _ _ _ h => h) (Or.inl ⟨by rfl, ?_⟩) (by assumption) ?_
      rotate_left
      · intro w _; go_simp; (try with_reducible rfl)
      try change wpAnyH _ _ _ _ _ _ _ (Act.put _ (some 28) _) _
      try simp only [act_all]
      refine wpAnyH_take (i := 12) (oi := _) (v := _) rfl (by kernel_rfl) (by kernel_rfl) (by kernel_rfl) (fun _ _ _ h => h) (yieldsIf_load_mid (by rfl) 25 _ rfl (w.heap.size) 8 rfl [.int .i64 a2, .int .i64 b2, .int .i64 c2, .int .i64 d2] _ RBP2.out Try.underlying25 rfl (by kernel_rfl)) (by assumption) ?_
      try change wpAnyH _ _ _ _ _ _ _ (Act.put _ (some 29) _) _
      try simp only [act_all]
      refine wpAnyH_take (i := 14) (oi := _) (v := _) rfl (by kernel_rfl) (by kernel_rfl) (by kernel_rfl) (fun _ _ _ h => h) (yieldsIf_load_mid (by rfl) 25 _ rfl (DB) 0 rfl [.int .i64 n1, .int .i64 n2, .int .i64 n3, .int .i64 n4] _ RBD.out Try.underlying25 rfl (by kernel_rfl)) (by assumption) ?_
      try change wpAnyH _ _ _ _ _ _ _ (Act.put _ (some 31) _) _
      try simp only [act_all]
      refine wpAnyH_take (i := 17) (oi := _) (v := ?_) rfl (by kernel_rfl) (by kernel_rfl) (by kernel_rfl) (fun _ _ _ h => h) (Or.inl ⟨by rfl, ?_⟩) (by assumption) ?_
      rotate_left
      · intro w _; go_simp; (try with_reducible rfl)
      try change wpAnyH _ _ _ _ _ _ _ (Act.put _ (some 34) _) _
      try simp only [act_all]
      refine wpAnyH_ready (rs := [9]) (by kernel_rfl) (by simp) ?_
      refine AllReadyH.cons (o := _) rfl (fun K hK => ?_) AllReadyH.nil
      go_simp
      refine (mulRect_any a1 b1 c1 d1 e0 f0 g0 h0 _ HP1.out.1 HP1.out.2 HQ0.out.1 HQ0.out.2).mono ?_
      rintro e w27 ⟨he, hb⟩
      have HD27 : Below SB V w27 := HD26.trans (hb.mono (Nat.le_trans (Nat.le_of_lt lV) HD26.size))
      have kS27 : w27.heap[SB]? = some (.cells #[.int .i64 0, .int .i64 0, .int .i64 0, .int .i64 0, .int .i64 0, .int .i64 0, .int .i64 0, .int .i64 0, .int .i64 0, .int .i64 0, .int .i64 0, .int .i64 0, .int .i64 0, .int .i64 0, .int .i64 0, .int .i64 0] 47 (0, 0)) := (hb.block _ (by first | omega | (simp; done) | (simp; omega))).trans cS
      have hz27 := hb.size
      (try simp at hz27)
      clear hb hHeld 
      obtain ⟨r, hr⟩ : ∃ r, (mulR ⟨⟨a1, b1⟩, ⟨c1, d1⟩⟩ ⟨⟨e0, f0⟩, ⟨g0, h0⟩⟩) = r := ⟨_, rfl⟩
      rw [hr] at he
      have HR27 := Lib.hid hr
      clear hr
      rcases r with ⟨⟨x1, x2⟩, ⟨x3, x4⟩⟩ | k
      case' bad =>
        obtain rfl : e = .panicked [{ v := .iface 26 (.int .i64 k), recovered := false }] := he
        refine ⟨rfl, ?_, HB0.out.trans (HD27.mono (by omega))⟩
        rw [← HSP.out]; simp only [starR, HDD.out, Out.binds]; simp only [starT, HR27.out, Out.binds, IsO]; (try rfl)
      obtain rfl : e = .returned (.agg #[.int .i64 x1, .int .i64 x2, .int .i64 x3, .int .i64 x4]) := he
      have HO27 := Lib.hid ((okR_iff _).1 (mulR_ok HR27.out))
      refine hK.out _ _ (G0.out _ HD27) (fun hHeld => ?_)
      clear hK K
      try simp only [act_all]
      refine wpAnyH_ready (rs := [13]) (by kernel_rfl) (by simp) ?_
      refine AllReadyH.cons (o := _) rfl (fun K hK => ?_) AllReadyH.nil
      go_simp
      refine (mulRect_any x1 x2 x3 x4 a2 b2 c2 d2 _ HO27.out.1 HO27.out.2 HP2.out.1 HP2.out.2).mono ?_
      rintro e w28 ⟨he, hb⟩
      have HD28 : Below SB V w28 := HD27.trans (hb.mono (Nat.le_trans (Nat.le_of_lt lV) HD27.size))
      have kS28 : w28.heap[SB]? = some (.cells #[.int .i64 0, .int .i64 0, .int .i64 0, .int .i64 0, .int .i64 0, .int .i64 0, .int .i64 0, .int .i64 0, .int .i64 0, .int .i64 0, .int .i64 0, .int .i64 0, .int .i64 0, .int .i64 0, .int .i64 0, .int .i64 0] 47 (0, 0)) := (hb.block _ (by first | omega | (simp; done) | (simp; omega))).trans kS27
      have hz28 := hb.size
      (try simp at hz28)
      clear hb hHeld kS27
      obtain ⟨r, hr⟩ : ∃ r, (mulR ⟨⟨x1, x2⟩, ⟨x3, x4⟩⟩ ⟨⟨a2, b2⟩, ⟨c2, d2⟩⟩) = r := ⟨_, rfl⟩
      rw [hr] at he
      have HR28 := Lib.hid hr
      clear hr
      rcases r with ⟨⟨y1, y2⟩, ⟨y3, y4⟩⟩ | k
      case' bad =>
        obtain rfl : e = .panicked [{ v := .iface 26 (.int .i64 k), recovered := false }] := he
        refine ⟨rfl, ?_, HB0.out.trans (HD28.mono (by omega))⟩
        rw [← HSP.out]; simp only [starR, HDD.out, Out.binds]; simp only [starT, HR27.out, HR28.out, Out.binds, IsO]; (try rfl)
      obtain rfl : e = .returned (.agg #[.int .i64 y1, .int .i64 y2, .int .i64 y3, .int .i64 y4]) := he
      have HO28 := Lib.hid ((okR_iff _).1 (mulR_ok HR28.out))
      refine hK.out _ _ (G0.out _ HD28) (fun hHeld => ?_)
      clear hK K
      try simp only [act_all]
      refine wpAnyH_ready (rs := [15]) (by kernel_rfl) (by simp) ?_
      refine AllReadyH.cons (o := _) rfl (fun K hK => ?_) AllReadyH.nil
      go_simp
      refine (divRect_any y1 y2 y3 y4 n1 n2 n3 n4 _ HO28.out.1 HO28.out.2 HOD.out.1 HOD.out.2).mono ?_
      rintro e w29 ⟨he, hb⟩
      have HD29 : Below SB V w29 := HD28.trans (hb.mono (Nat.le_trans (Nat.le_of_lt lV) HD28.size))
      have kS29 : w29.heap[SB]? = some (.cells #[.int .i64 0, .int .i64 0, .int .i64 0, .int .i64 0, .int .i64 0, .int .i64 0, .int .i64 0, .int .i64 0, .int .i64 0, .int .i64 0, .int .i64 0, .int .i64 0, .int .i64 0, .int .i64 0, .int .i64 0, .int .i64 0] 47 (0, 0)) := (hb.block _ (by first | omega | (simp; done) | (simp; omega))).trans kS28
      have hz29 := hb.size
      (try simp at hz29)
      clear hb hHeld kS28
      obtain ⟨r, hr⟩ : ∃ r, (divR ⟨⟨y1, y2⟩, ⟨y3, y4⟩⟩ ⟨⟨n1, n2⟩, ⟨n3, n4⟩⟩) = r := ⟨_, rfl⟩
      rw [hr] at he
      have HR29 := Lib.hid hr
      clear hr
      rcases r with ⟨⟨z1, z2⟩, ⟨z3, z4⟩⟩ | k
      case' bad =>
        obtain rfl : e = .panicked [{ v := .iface 26 (.int .i64 k), recovered := false }] := he
        refine ⟨rfl, ?_, HB0.out.trans (HD29.mono (by omega))⟩
        rw [← HSP.out]; simp only [starR, HDD.out, Out.binds]; simp only [starT, HR27.out, HR28.out, HR29.out, Out.binds, IsO]; (try rfl)
      obtain rfl : e = .returned (.agg #[.int .i64 z1, .int .i64 z2, .int .i64 z3, .int .i64 z4]) := he
      have HO29 := Lib.hid ((okR_iff _).1 (divR_ok HR29.out))
      refine hK.out _ _ (G0.out _ HD29) (fun hHeld => ?_)
      clear hK K
      try simp only [act_all]
      refine wpAnyH_ready (rs := [16]) (by kernel_rfl) (by simp) ?_
      refine AllReadyH.cons (o := _) rfl (fun K hK => ?_) AllReadyH.nil
      go_simp
      refine (addRect_any a0 b0 c0 d0 z1 z2 z3 z4 _ HP0.out.1 HP0.out.2 HO29.out.1 HO29.out.2).mono ?_
      rintro e w30 ⟨he, hb⟩
      have HD30 : Below SB V w30 := HD29.trans (hb.mono (Nat.le_trans (Nat.le_of_lt lV) HD29.size))
      have kS30 : w30.heap[SB]? = some (.cells #[.int .i64 0, .int .i64 0, .int .i64 0, .int .i64 0, .int .i64 0, .int .i64 0, .int .i64 0, .int .i64 0, .int .i64 0, .int .i64 0, .int .i64 0, .int .i64 0, .int .i64 0, .int .i64 0, .int .i64 0, .int .i64 0] 47 (0, 0)) := (hb.block _ (by first | omega | (simp; done) | (simp; omega))).trans kS29
      have hz30 := hb.size
      (try simp at hz30)
      clear hb hHeld kS29
      obtain ⟨r, hr⟩ : ∃ r, (addR ⟨⟨a0, b0⟩, ⟨c0, d0⟩⟩ ⟨⟨z1, z2⟩, ⟨z3, z4⟩⟩) = r := ⟨_, rfl⟩
      rw [hr] at he
      have HR30 := Lib.hid hr
      clear hr
      rcases r with ⟨⟨s1, s2⟩, ⟨s3, s4⟩⟩ | k
      case' bad =>
        obtain rfl : e = .panicked [{ v := .iface 26 (.int .i64 k), recovered := false }] := he
        refine ⟨rfl, ?_, HB0.out.trans (HD30.mono (by omega))⟩
        rw [← HSP.out]; simp only [starR, HDD.out, Out.binds]; simp only [starT, HR27.out, HR28.out, HR29.out, HR30.out, Out.binds, IsO]; (try rfl)
      obtain rfl : e = .returned (.agg #[.int .i64 s1, .int .i64 s2, .int .i64 s3, .int .i64 s4]) := he
      have HO30 := Lib.hid ((okR_iff _).1 (addR_ok HR30.out))
      refine hK.out _ _ (G0.out _ HD30) (fun hHeld => ?_)
      clear hK K
      try simp only [act_all]
      refine wpAnyH_take (i := 18) (oi := _) (v := ?_) rfl (by kernel_rfl) (by kernel_rfl) (by kernel_rfl) (fun _ _ _ h => h) (Or.inl ⟨by rfl, ?_⟩) (by assumption) ?_
      rotate_left
      · intro w _; go_simp; (try with_reducible rfl)
      try change wpAnyH _ _ _ _ _ _ _ (Act.put _ (some 35) _) _
      try simp only [act_all]
      refine wpAnyH_ready (rs := [19]) (by kernel_rfl) (by simp) ?_
      refine AllReadyH.cons (o := _) rfl (fun K hK => ?_) AllReadyH.nil
      have HTH := Lib.hid (there_mid kS30 0 4 (show 0 + 4 ≤ 16 by decide))
      have HD31 : Below SB V (w30.setCells SB 0 [.int .i64 s1, .int .i64 s2, .int .i64 s3, .int .i64 s4]) := below_mids (Nat.le_refl _) _ _ HD30
      have kE31 : (w30.setCells SB 0 [.int .i64 s1, .int .i64 s2, .int .i64 s3, .int .i64 s4]).heap[SB]? = some (.cells #[.int .i64 s1, .int .i64 s2, .int .i64 s3, .int .i64 s4, .int .i64 0, .int .i64 0, .int .i64 0, .int .i64 0, .int .i64 0, .int .i64 0, .int .i64 0, .int .i64 0, .int .i64 0, .int .i64 0, .int .i64 0, .int .i64 0] 47 (0, 0)) := block_setCells [.int .i64 s1, .int .i64 s2, .int .i64 s3, .int .i64 s4] 0 _ _ kS30
      rw [if_pos (show Region.wanted _ _ = true from rfl)]
      refine wp_store_mid 25 (.tmp 35) (.tmp 33) rfl SB 0 #[.int .i64 s1, .int .i64 s2, .int .i64 s3, .int .i64 s4] rfl rfl HTH.out (by kernel_rfl) (by simp [Value.oneCell']) ?_
      rw [show (#[.int .i64 s1, .int .i64 s2, .int .i64 s3, .int .i64 s4] : Array Value).toList = [.int .i64 s1, .int .i64 s2, .int .i64 s3, .int .i64 s4] from rfl]
      refine hK.out _ _ (G0.out _ HD31) (fun hHeld => ?_)
      clear hK K
      try simp only [act_all]
      refine wpAnyH_done (by kernel_rfl) ?_ _
      have HTT : starT ⟨⟨a0, b0⟩, ⟨c0, d0⟩⟩ ⟨⟨a1, b1⟩, ⟨c1, d1⟩⟩ ⟨⟨e0, f0⟩, ⟨g0, h0⟩⟩ ⟨⟨a2, b2⟩, ⟨c2, d2⟩⟩ ⟨⟨n1, n2⟩, ⟨n3, n4⟩⟩ = .ok ⟨⟨s1, s2⟩, ⟨s3, s4⟩⟩ := by simp only [starT, HR27.out, HR28.out, HR29.out, HR30.out, Out.binds]
      go_wp2_with fail
      go_meet
      exact ⟨_, _, _, _, HTT, kE31, HD31⟩
    case rest =>
    obtain ⟨s1, s2, s3, s4, ht3, kS3, hK3⟩ := hcut
    have HT3 := Lib.hid ht3
    clear ht3 cS HD0
    obtain ⟨V3, hV⟩ : ∃ z, z = wc := ⟨wc, rfl⟩
    subst hV
    have lZ3 : SB < V3.heap.size := by have := hK3.size; omega
    go_upto_region 4 with fail
    go_cut [] (fun wx => ∃ t1 t2 t3 t4 : Int, starH ⟨⟨a1, b1⟩, ⟨c1, d1⟩⟩ ⟨⟨e1, f1⟩, ⟨g1, h1⟩⟩ ⟨⟨n1, n2⟩, ⟨n3, n4⟩⟩ = .ok ⟨⟨t1, t2⟩, ⟨t3, t4⟩⟩ ∧ wx.heap[SB]? = some (.cells #[.int .i64 s1, .int .i64 s2, .int .i64 s3, .int .i64 s4, .int .i64 t1, .int .i64 t2, .int .i64 t3, .int .i64 t4, .int .i64 0, .int .i64 0, .int .i64 0, .int .i64 0, .int .i64 0, .int .i64 0, .int .i64 0, .int .i64 0] 47 (0, 0)) ∧ Below SB V wx)
    case first =>
      have HD32 : Below SB V V3.drew := hK3.drew
      refine wp_region_held_drew (S := fun w' => w'.heap[w.heap.size]? = some (.cells #[.int .i64 a0, .int .i64 b0, .int .i64 c0, .int .i64 d0, .int .i64 a1, .int .i64 b1, .int .i64 c1, .int .i64 d1, .int .i64 a2, .int .i64 b2, .int .i64 c2, .int .i64 d2, .int .i64 a3, .int .i64 b3, .int .i64 c3, .int .i64 d3] 47 (0, 0)) ∧ w'.heap[w.heap.size + 1]? = some (.cells #[.int .i64 e0, .int .i64 f0, .int .i64 g0, .int .i64 h0, .int .i64 e1, .int .i64 f1, .int .i64 g1, .int .i64 h1, .int .i64 e2, .int .i64 f2, .int .i64 g2, .int .i64 h2, .int .i64 e3, .int .i64 f3, .int .i64 g3, .int .i64 h3] 47 (0, 0)) ∧ w'.heap[DB]? = some (.cells #[.int .i64 n1, .int .i64 n2, .int .i64 n3, .int .i64 n4] 25 (0, 0))) (by kernel_rfl) (G0.out _ HD32) (fun hHeld => ?_)
      refine wpAnyH_take (i := 0) (oi := _) (v := ?_) rfl (by kernel_rfl) (by kernel_rfl) (by kernel_rfl) (fun _ _ _ h => h) (Or.inl ⟨by rfl, ?_⟩) (by assumption) ?_
      rotate_left
      · intro w _; go_simp; (try with_reducible rfl)
      try change wpAnyH _ _ _ _ _ _ _ (Act.put _ (some 36) _) _
      try simp only [act_all]
      refine wpAnyH_take (i := 1) (oi := _) (v := ?_) rfl (by kernel_rfl) (by kernel_rfl) (by kernel_rfl) (fun _ _ _ h => h) (Or.inl ⟨by rfl, ?_⟩) (by assumption) ?_
      rotate_left
      · intro w _; go_simp; (try with_reducible rfl)
      try change wpAnyH _ _ _ _ _ _ _ (Act.put _ (some 37) _) _
      try simp only [act_all]
      refine wpAnyH_take (i := 2) (oi := _) (v := _) rfl (by kernel_rfl) (by kernel_rfl) (by kernel_rfl) (fun _ _ _ h => h) (yieldsIf_load_mid (by rfl) 25 _ rfl (w.heap.size) 4 rfl [.int .i64 a1, .int .i64 b1, .int .i64 c1, .int .i64 d1] _ RBP1.out Try.underlying25 rfl (by kernel_rfl)) (by assumption) ?_
      try change wpAnyH _ _ _ _ _ _ _ (Act.put _ (some 38) _) _
      try simp only [act_all]
      refine wpAnyH_take (i := 3) (oi := _) (v := ?_) rfl (by kernel_rfl) (by kernel_rfl) (by kernel_rfl) (fun _ _ _ h => h) (Or.inl ⟨by rfl, ?_⟩) (by assumption) ?_
      rotate_left
      · intro w _; go_simp; (try with_reducible rfl)
      try change wpAnyH _ _ _ _ _ _ _ (Act.put _ (some 39) _) _
      try simp only [act_all]
      refine wpAnyH_take (i := 4) (oi := _) (v := ?_) rfl (by kernel_rfl) (by kernel_rfl) (by kernel_rfl) (fun _ _ _ h => h) (Or.inl ⟨by rfl, ?_⟩) (by assumption) ?_
      rotate_left
      · intro w _; go_simp; (try with_reducible rfl)
      try change wpAnyH _ _ _ _ _ _ _ (Act.put _ (some 40) _) _
      try simp only [act_all]
      refine wpAnyH_take (i := 5) (oi := _) (v := _) rfl (by kernel_rfl) (by kernel_rfl) (by kernel_rfl) (fun _ _ _ h => h) (yieldsIf_load_mid (by rfl) 25 _ rfl (w.heap.size + 1) 4 rfl [.int .i64 e1, .int .i64 f1, .int .i64 g1, .int .i64 h1] _ RBQ1.out Try.underlying25 rfl (by kernel_rfl)) (by assumption) ?_
      try change wpAnyH _ _ _ _ _ _ _ (Act.put _ (some 41) _) _
      try simp only [act_all]
      refine wpAnyH_take (i := 7) (oi := _) (v := _) rfl (by kernel_rfl) (by kernel_rfl) (by kernel_rfl) (fun _ _ _ h => h) (yieldsIf_load_mid (by rfl) 25 _ rfl (DB) 0 rfl [.int .i64 n1, .int .i64 n2, .int .i64 n3, .int .i64 n4] _ RBD.out Try.underlying25 rfl (by kernel_rfl)) (by assumption) ?_
      try change wpAnyH _ _ _ _ _ _ _ (Act.put _ (some 43) _) _
      try simp only [act_all]
      refine wpAnyH_take (i := 9) (oi := _) (v := ?_) rfl (by kernel_rfl) (by kernel_rfl) (by kernel_rfl) (fun _ _ _ h => h) (Or.inl ⟨by rfl, ?_⟩) (by assumption) ?_
      rotate_left
      · intro w _; go_simp; (try with_reducible rfl)
      try change wpAnyH _ _ _ _ _ _ _ (Act.put _ (some 45) _) _
      try simp only [act_all]
      refine wpAnyH_ready (rs := [6]) (by kernel_rfl) (by simp) ?_
      refine AllReadyH.cons (o := _) rfl (fun K hK => ?_) AllReadyH.nil
      go_simp
      refine (mulRect_any a1 b1 c1 d1 e1 f1 g1 h1 _ HP1.out.1 HP1.out.2 HQ1.out.1 HQ1.out.2).mono ?_
      rintro e w33 ⟨he, hb⟩
      have HD33 : Below SB V w33 := HD32.trans (hb.mono (Nat.le_trans (Nat.le_of_lt lV) HD32.size))
      have kS33 : w33.heap[SB]? = some (.cells #[.int .i64 s1, .int .i64 s2, .int .i64 s3, .int .i64 s4, .int .i64 0, .int .i64 0, .int .i64 0, .int .i64 0, .int .i64 0, .int .i64 0, .int .i64 0, .int .i64 0, .int .i64 0, .int .i64 0, .int .i64 0, .int .i64 0] 47 (0, 0)) := (hb.block _ (by first | omega | (simp; done) | (simp; omega))).trans kS3
      have hz33 := hb.size
      (try simp at hz33)
      clear hb hHeld kS3
      obtain ⟨r, hr⟩ : ∃ r, (mulR ⟨⟨a1, b1⟩, ⟨c1, d1⟩⟩ ⟨⟨e1, f1⟩, ⟨g1, h1⟩⟩) = r := ⟨_, rfl⟩
      rw [hr] at he
      have HR33 := Lib.hid hr
      clear hr
      rcases r with ⟨⟨x1, x2⟩, ⟨x3, x4⟩⟩ | k
      case' bad =>
        obtain rfl : e = .panicked [{ v := .iface 26 (.int .i64 k), recovered := false }] := he
        refine ⟨rfl, ?_, HB0.out.trans (HD33.mono (by omega))⟩
        rw [← HSP.out]; simp only [starR, HDD.out, HT3.out, Out.binds]; simp only [starH, HR33.out, Out.binds, IsO]; (try rfl)
      obtain rfl : e = .returned (.agg #[.int .i64 x1, .int .i64 x2, .int .i64 x3, .int .i64 x4]) := he
      have HO33 := Lib.hid ((okR_iff _).1 (mulR_ok HR33.out))
      refine hK.out _ _ (G0.out _ HD33) (fun hHeld => ?_)
      clear hK K
      try simp only [act_all]
      refine wpAnyH_ready (rs := [8]) (by kernel_rfl) (by simp) ?_
      refine AllReadyH.cons (o := _) rfl (fun K hK => ?_) AllReadyH.nil
      go_simp
      refine (divRect_any x1 x2 x3 x4 n1 n2 n3 n4 _ HO33.out.1 HO33.out.2 HOD.out.1 HOD.out.2).mono ?_
      rintro e w34 ⟨he, hb⟩
      have HD34 : Below SB V w34 := HD33.trans (hb.mono (Nat.le_trans (Nat.le_of_lt lV) HD33.size))
      have kS34 : w34.heap[SB]? = some (.cells #[.int .i64 s1, .int .i64 s2, .int .i64 s3, .int .i64 s4, .int .i64 0, .int .i64 0, .int .i64 0, .int .i64 0, .int .i64 0, .int .i64 0, .int .i64 0, .int .i64 0, .int .i64 0, .int .i64 0, .int .i64 0, .int .i64 0] 47 (0, 0)) := (hb.block _ (by first | omega | (simp; done) | (simp; omega))).trans kS33
      have hz34 := hb.size
      (try simp at hz34)
      clear hb hHeld kS33
      obtain ⟨r, hr⟩ : ∃ r, (divR ⟨⟨x1, x2⟩, ⟨x3, x4⟩⟩ ⟨⟨n1, n2⟩, ⟨n3, n4⟩⟩) = r := ⟨_, rfl⟩
      rw [hr] at he
      have HR34 := Lib.hid hr
      clear hr
      rcases r with ⟨⟨t1, t2⟩, ⟨t3, t4⟩⟩ | k
      case' bad =>
        obtain rfl : e = .panicked [{ v := .iface 26 (.int .i64 k), recovered := false }] := he
        refine ⟨rfl, ?_, HB0.out.trans (HD34.mono (by omega))⟩
        rw [← HSP.out]; simp only [starR, HDD.out, HT3.out, Out.binds]; simp only [starH, HR33.out, HR34.out, Out.binds, IsO]; (try rfl)
      obtain rfl : e = .returned (.agg #[.int .i64 t1, .int .i64 t2, .int .i64 t3, .int .i64 t4]) := he
      have HO34 := Lib.hid ((okR_iff _).1 (divR_ok HR34.out))
      refine hK.out _ _ (G0.out _ HD34) (fun hHeld => ?_)
      clear hK K
      try simp only [act_all]
      refine wpAnyH_take (i := 10) (oi := _) (v := ?_) rfl (by kernel_rfl) (by kernel_rfl) (by kernel_rfl) (fun _ _ _ h => h) (Or.inl ⟨by rfl, ?_⟩) (by assumption) ?_
      rotate_left
      · intro w _; go_simp; (try with_reducible rfl)
      try change wpAnyH _ _ _ _ _ _ _ (Act.put _ (some 46) _) _
      try simp only [act_all]
      refine wpAnyH_ready (rs := [11]) (by kernel_rfl) (by simp) ?_
      refine AllReadyH.cons (o := _) rfl (fun K hK => ?_) AllReadyH.nil
      have HTH := Lib.hid (there_mid kS34 4 4 (show 4 + 4 ≤ 16 by decide))
      have HD35 : Below SB V (w34.setCells SB 4 [.int .i64 t1, .int .i64 t2, .int .i64 t3, .int .i64 t4]) := below_mids (Nat.le_refl _) _ _ HD34
      have kE35 : (w34.setCells SB 4 [.int .i64 t1, .int .i64 t2, .int .i64 t3, .int .i64 t4]).heap[SB]? = some (.cells #[.int .i64 s1, .int .i64 s2, .int .i64 s3, .int .i64 s4, .int .i64 t1, .int .i64 t2, .int .i64 t3, .int .i64 t4, .int .i64 0, .int .i64 0, .int .i64 0, .int .i64 0, .int .i64 0, .int .i64 0, .int .i64 0, .int .i64 0] 47 (0, 0)) := block_setCells [.int .i64 t1, .int .i64 t2, .int .i64 t3, .int .i64 t4] 4 _ _ kS34
      rw [if_pos (show Region.wanted _ _ = true from rfl)]
      refine wp_store_mid 25 (.tmp 46) (.tmp 44) rfl SB 4 #[.int .i64 t1, .int .i64 t2, .int .i64 t3, .int .i64 t4] rfl rfl HTH.out (by kernel_rfl) (by simp [Value.oneCell']) ?_
      rw [show (#[.int .i64 t1, .int .i64 t2, .int .i64 t3, .int .i64 t4] : Array Value).toList = [.int .i64 t1, .int .i64 t2, .int .i64 t3, .int .i64 t4] from rfl]
      refine hK.out _ _ (G0.out _ HD35) (fun hHeld => ?_)
      clear hK K
      try simp only [act_all]
      refine wpAnyH_done (by kernel_rfl) ?_ _
      have HTT : starH ⟨⟨a1, b1⟩, ⟨c1, d1⟩⟩ ⟨⟨e1, f1⟩, ⟨g1, h1⟩⟩ ⟨⟨n1, n2⟩, ⟨n3, n4⟩⟩ = .ok ⟨⟨t1, t2⟩, ⟨t3, t4⟩⟩ := by simp only [starH, HR33.out, HR34.out, Out.binds]
      go_wp2_with fail
      go_meet
      exact ⟨_, _, _, _, HTT, kE35, HD35⟩
    case rest =>
    obtain ⟨t1, t2, t3, t4, ht4, kS4, hK4⟩ := hcut
    have HT4 := Lib.hid ht4
    clear ht4 kS3 hK3
    obtain ⟨V4, hV⟩ : ∃ z, z = wc := ⟨wc, rfl⟩
    subst hV
    have lZ4 : SB < V4.heap.size := by have := hK4.size; omega
    go_upto_region 5 with fail
    go_cut [] (fun wx => ∃ u1 u2 u3 u4 : Int, starH ⟨⟨e2, f2⟩, ⟨g2, h2⟩⟩ ⟨⟨a2, b2⟩, ⟨c2, d2⟩⟩ ⟨⟨n1, n2⟩, ⟨n3, n4⟩⟩ = .ok ⟨⟨u1, u2⟩, ⟨u3, u4⟩⟩ ∧ wx.heap[SB]? = some (.cells #[.int .i64 s1, .int .i64 s2, .int .i64 s3, .int .i64 s4, .int .i64 t1, .int .i64 t2, .int .i64 t3, .int .i64 t4, .int .i64 u1, .int .i64 u2, .int .i64 u3, .int .i64 u4, .int .i64 0, .int .i64 0, .int .i64 0, .int .i64 0] 47 (0, 0)) ∧ Below SB V wx)
    case first =>
      have HD36 : Below SB V V4.drew := hK4.drew
      refine wp_region_held_drew (S := fun w' => w'.heap[w.heap.size]? = some (.cells #[.int .i64 a0, .int .i64 b0, .int .i64 c0, .int .i64 d0, .int .i64 a1, .int .i64 b1, .int .i64 c1, .int .i64 d1, .int .i64 a2, .int .i64 b2, .int .i64 c2, .int .i64 d2, .int .i64 a3, .int .i64 b3, .int .i64 c3, .int .i64 d3] 47 (0, 0)) ∧ w'.heap[w.heap.size + 1]? = some (.cells #[.int .i64 e0, .int .i64 f0, .int .i64 g0, .int .i64 h0, .int .i64 e1, .int .i64 f1, .int .i64 g1, .int .i64 h1, .int .i64 e2, .int .i64 f2, .int .i64 g2, .int .i64 h2, .int .i64 e3, .int .i64 f3, .int .i64 g3, .int .i64 h3] 47 (0, 0)) ∧ w'.heap[DB]? = some (.cells #[.int .i64 n1, .int .i64 n2, .int .i64 n3, .int .i64 n4] 25 (0, 0))) (by kernel_rfl) (G0.out _ HD36) (fun hHeld => ?_)
      refine wpAnyH_take (i := 0) (oi := _) (v := ?_) rfl (by kernel_rfl) (by kernel_rfl) (by kernel_rfl) (fun _ _ _ h => h) (Or.inl ⟨by rfl, ?_⟩) (by assumption) ?_
      rotate_left
      · intro w _; go_simp; (try with_reducible rfl)
      try change wpAnyH _ _ _ _ _ _ _ (Act.put _ (some 47) _) _
      try simp only [act_all]
      refine wpAnyH_take (i := 1) (oi := _) (v := ?_) rfl (by kernel_rfl) (by kernel_rfl) (by kernel_rfl) (fun _ _ _ h => h) (Or.inl ⟨by rfl, ?_⟩) (by assumption) ?_
      rotate_left
      · intro w _; go_simp; (try with_reducible rfl)
      try change wpAnyH _ _ _ _ _ _ _ (Act.put _ (some 48) _) _
      try simp only [act_all]
      refine wpAnyH_take (i := 2) (oi := _) (v := _) rfl (by kernel_rfl) (by kernel_rfl) (by kernel_rfl) (fun _ _ _ h => h) (yieldsIf_load_mid (by rfl) 25 _ rfl (w.heap.size + 1) 8 rfl [.int .i64 e2, .int .i64 f2, .int .i64 g2, .int .i64 h2] _ RBQ2.out Try.underlying25 rfl (by kernel_rfl)) (by assumption) ?_
      try change wpAnyH _ _ _ _ _ _ _ (Act.put _ (some 49) _) _
      try simp only [act_all]
      refine wpAnyH_take (i := 3) (oi := _) (v := ?_) rfl (by kernel_rfl) (by kernel_rfl) (by kernel_rfl) (fun _ _ _ h => h) (Or.inl ⟨by rfl, ?_⟩) (by assumption) ?_
      rotate_left
      · intro w _; go_simp; (try with_reducible rfl)
      try change wpAnyH _ _ _ _ _ _ _ (Act.put _ (some 50) _) _
      try simp only [act_all]
      refine wpAnyH_take (i := 4) (oi := _) (v := ?_) rfl (by kernel_rfl) (by kernel_rfl) (by kernel_rfl) (fun _ _ _ h => h) (Or.inl ⟨by rfl, ?_⟩) (by assumption) ?_
      rotate_left
      · intro w _; go_simp; (try with_reducible rfl)
      try change wpAnyH _ _ _ _ _ _ _ (Act.put _ (some 51) _) _
      try simp only [act_all]
      refine wpAnyH_take (i := 5) (oi := _) (v := _) rfl (by kernel_rfl) (by kernel_rfl) (by kernel_rfl) (fun _ _ _ h => h) (yieldsIf_load_mid (by rfl) 25 _ rfl (w.heap.size) 8 rfl [.int .i64 a2, .int .i64 b2, .int .i64 c2, .int .i64 d2] _ RBP2.out Try.underlying25 rfl (by kernel_rfl)) (by assumption) ?_
      try change wpAnyH _ _ _ _ _ _ _ (Act.put _ (some 52) _) _
      try simp only [act_all]
      refine wpAnyH_take (i := 7) (oi := _) (v := _) rfl (by kernel_rfl) (by kernel_rfl) (by kernel_rfl) (fun _ _ _ h => h) (yieldsIf_load_mid (by rfl) 25 _ rfl (DB) 0 rfl [.int .i64 n1, .int .i64 n2, .int .i64 n3, .int .i64 n4] _ RBD.out Try.underlying25 rfl (by kernel_rfl)) (by assumption) ?_
      try change wpAnyH _ _ _ _ _ _ _ (Act.put _ (some 54) _) _
      try simp only [act_all]
      refine wpAnyH_take (i := 9) (oi := _) (v := ?_) rfl (by kernel_rfl) (by kernel_rfl) (by kernel_rfl) (fun _ _ _ h => h) (Or.inl ⟨by rfl, ?_⟩) (by assumption) ?_
      rotate_left
      · intro w _; go_simp; (try with_reducible rfl)
      try change wpAnyH _ _ _ _ _ _ _ (Act.put _ (some 56) _) _
      try simp only [act_all]
      refine wpAnyH_ready (rs := [6]) (by kernel_rfl) (by simp) ?_
      refine AllReadyH.cons (o := _) rfl (fun K hK => ?_) AllReadyH.nil
      go_simp
      refine (mulRect_any e2 f2 g2 h2 a2 b2 c2 d2 _ HQ2.out.1 HQ2.out.2 HP2.out.1 HP2.out.2).mono ?_
      rintro e w37 ⟨he, hb⟩
      have HD37 : Below SB V w37 := HD36.trans (hb.mono (Nat.le_trans (Nat.le_of_lt lV) HD36.size))
      have kS37 : w37.heap[SB]? = some (.cells #[.int .i64 s1, .int .i64 s2, .int .i64 s3, .int .i64 s4, .int .i64 t1, .int .i64 t2, .int .i64 t3, .int .i64 t4, .int .i64 0, .int .i64 0, .int .i64 0, .int .i64 0, .int .i64 0, .int .i64 0, .int .i64 0, .int .i64 0] 47 (0, 0)) := (hb.block _ (by first | omega | (simp; done) | (simp; omega))).trans kS4
      have hz37 := hb.size
      (try simp at hz37)
      clear hb hHeld kS4
      obtain ⟨r, hr⟩ : ∃ r, (mulR ⟨⟨e2, f2⟩, ⟨g2, h2⟩⟩ ⟨⟨a2, b2⟩, ⟨c2, d2⟩⟩) = r := ⟨_, rfl⟩
      rw [hr] at he
      have HR37 := Lib.hid hr
      clear hr
      rcases r with ⟨⟨x1, x2⟩, ⟨x3, x4⟩⟩ | k
      case' bad =>
        obtain rfl : e = .panicked [{ v := .iface 26 (.int .i64 k), recovered := false }] := he
        refine ⟨rfl, ?_, HB0.out.trans (HD37.mono (by omega))⟩
        rw [← HSP.out]; simp only [starR, HDD.out, HT3.out, HT4.out, Out.binds]; simp only [starH, HR37.out, Out.binds, IsO]; (try rfl)
      obtain rfl : e = .returned (.agg #[.int .i64 x1, .int .i64 x2, .int .i64 x3, .int .i64 x4]) := he
      have HO37 := Lib.hid ((okR_iff _).1 (mulR_ok HR37.out))
      refine hK.out _ _ (G0.out _ HD37) (fun hHeld => ?_)
      clear hK K
      try simp only [act_all]
      refine wpAnyH_ready (rs := [8]) (by kernel_rfl) (by simp) ?_
      refine AllReadyH.cons (o := _) rfl (fun K hK => ?_) AllReadyH.nil
      go_simp
      refine (divRect_any x1 x2 x3 x4 n1 n2 n3 n4 _ HO37.out.1 HO37.out.2 HOD.out.1 HOD.out.2).mono ?_
      rintro e w38 ⟨he, hb⟩
      have HD38 : Below SB V w38 := HD37.trans (hb.mono (Nat.le_trans (Nat.le_of_lt lV) HD37.size))
      have kS38 : w38.heap[SB]? = some (.cells #[.int .i64 s1, .int .i64 s2, .int .i64 s3, .int .i64 s4, .int .i64 t1, .int .i64 t2, .int .i64 t3, .int .i64 t4, .int .i64 0, .int .i64 0, .int .i64 0, .int .i64 0, .int .i64 0, .int .i64 0, .int .i64 0, .int .i64 0] 47 (0, 0)) := (hb.block _ (by first | omega | (simp; done) | (simp; omega))).trans kS37
      have hz38 := hb.size
      (try simp at hz38)
      clear hb hHeld kS37
      obtain ⟨r, hr⟩ : ∃ r, (divR ⟨⟨x1, x2⟩, ⟨x3, x4⟩⟩ ⟨⟨n1, n2⟩, ⟨n3, n4⟩⟩) = r := ⟨_, rfl⟩
      rw [hr] at he
      have HR38 := Lib.hid hr
      clear hr
      rcases r with ⟨⟨u1, u2⟩, ⟨u3, u4⟩⟩ | k
      case' bad =>
        obtain rfl : e = .panicked [{ v := .iface 26 (.int .i64 k), recovered := false }] := he
        refine ⟨rfl, ?_, HB0.out.trans (HD38.mono (by omega))⟩
        rw [← HSP.out]; simp only [starR, HDD.out, HT3.out, HT4.out, Out.binds]; simp only [starH, HR37.out, HR38.out, Out.binds, IsO]; (try rfl)
      obtain rfl : e = .returned (.agg #[.int .i64 u1, .int .i64 u2, .int .i64 u3, .int .i64 u4]) := he
      have HO38 := Lib.hid ((okR_iff _).1 (divR_ok HR38.out))
      refine hK.out _ _ (G0.out _ HD38) (fun hHeld => ?_)
      clear hK K
      try simp only [act_all]
      refine wpAnyH_take (i := 10) (oi := _) (v := ?_) rfl (by kernel_rfl) (by kernel_rfl) (by kernel_rfl) (fun _ _ _ h => h) (Or.inl ⟨by rfl, ?_⟩) (by assumption) ?_
      rotate_left
      · intro w _; go_simp; (try with_reducible rfl)
      try change wpAnyH _ _ _ _ _ _ _ (Act.put _ (some 57) _) _
      try simp only [act_all]
      refine wpAnyH_ready (rs := [11]) (by kernel_rfl) (by simp) ?_
      refine AllReadyH.cons (o := _) rfl (fun K hK => ?_) AllReadyH.nil
      have HTH := Lib.hid (there_mid kS38 8 4 (show 8 + 4 ≤ 16 by decide))
      have HD39 : Below SB V (w38.setCells SB 8 [.int .i64 u1, .int .i64 u2, .int .i64 u3, .int .i64 u4]) := below_mids (Nat.le_refl _) _ _ HD38
      have kE39 : (w38.setCells SB 8 [.int .i64 u1, .int .i64 u2, .int .i64 u3, .int .i64 u4]).heap[SB]? = some (.cells #[.int .i64 s1, .int .i64 s2, .int .i64 s3, .int .i64 s4, .int .i64 t1, .int .i64 t2, .int .i64 t3, .int .i64 t4, .int .i64 u1, .int .i64 u2, .int .i64 u3, .int .i64 u4, .int .i64 0, .int .i64 0, .int .i64 0, .int .i64 0] 47 (0, 0)) := block_setCells [.int .i64 u1, .int .i64 u2, .int .i64 u3, .int .i64 u4] 8 _ _ kS38
      rw [if_pos (show Region.wanted _ _ = true from rfl)]
      refine wp_store_mid 25 (.tmp 57) (.tmp 55) rfl SB 8 #[.int .i64 u1, .int .i64 u2, .int .i64 u3, .int .i64 u4] rfl rfl HTH.out (by kernel_rfl) (by simp [Value.oneCell']) ?_
      rw [show (#[.int .i64 u1, .int .i64 u2, .int .i64 u3, .int .i64 u4] : Array Value).toList = [.int .i64 u1, .int .i64 u2, .int .i64 u3, .int .i64 u4] from rfl]
      refine hK.out _ _ (G0.out _ HD39) (fun hHeld => ?_)
      clear hK K
      try simp only [act_all]
      refine wpAnyH_done (by kernel_rfl) ?_ _
      have HTT : starH ⟨⟨e2, f2⟩, ⟨g2, h2⟩⟩ ⟨⟨a2, b2⟩, ⟨c2, d2⟩⟩ ⟨⟨n1, n2⟩, ⟨n3, n4⟩⟩ = .ok ⟨⟨u1, u2⟩, ⟨u3, u4⟩⟩ := by simp only [starH, HR37.out, HR38.out, Out.binds]
      go_wp2_with fail
      go_meet
      exact ⟨_, _, _, _, HTT, kE39, HD39⟩
    case rest =>
    obtain ⟨u1, u2, u3, u4, ht5, kS5, hK5⟩ := hcut
    have HT5 := Lib.hid ht5
    clear ht5 kS4 hK4
    obtain ⟨V5, hV⟩ : ∃ z, z = wc := ⟨wc, rfl⟩
    subst hV
    have lZ5 : SB < V5.heap.size := by have := hK5.size; omega
    go_upto_region 6 with fail
    go_cut [] (fun wx => ∃ v1 v2 v3 v4 : Int, starT ⟨⟨e3, f3⟩, ⟨g3, h3⟩⟩ ⟨⟨e2, f2⟩, ⟨g2, h2⟩⟩ ⟨⟨a3, b3⟩, ⟨c3, d3⟩⟩ ⟨⟨e1, f1⟩, ⟨g1, h1⟩⟩ ⟨⟨n1, n2⟩, ⟨n3, n4⟩⟩ = .ok ⟨⟨v1, v2⟩, ⟨v3, v4⟩⟩ ∧ wx.heap[SB]? = some (.cells #[.int .i64 s1, .int .i64 s2, .int .i64 s3, .int .i64 s4, .int .i64 t1, .int .i64 t2, .int .i64 t3, .int .i64 t4, .int .i64 u1, .int .i64 u2, .int .i64 u3, .int .i64 u4, .int .i64 v1, .int .i64 v2, .int .i64 v3, .int .i64 v4] 47 (0, 0)) ∧ Below SB V wx)
    case first =>
      have HD40 : Below SB V V5.drew := hK5.drew
      refine wp_region_held_drew (S := fun w' => w'.heap[w.heap.size]? = some (.cells #[.int .i64 a0, .int .i64 b0, .int .i64 c0, .int .i64 d0, .int .i64 a1, .int .i64 b1, .int .i64 c1, .int .i64 d1, .int .i64 a2, .int .i64 b2, .int .i64 c2, .int .i64 d2, .int .i64 a3, .int .i64 b3, .int .i64 c3, .int .i64 d3] 47 (0, 0)) ∧ w'.heap[w.heap.size + 1]? = some (.cells #[.int .i64 e0, .int .i64 f0, .int .i64 g0, .int .i64 h0, .int .i64 e1, .int .i64 f1, .int .i64 g1, .int .i64 h1, .int .i64 e2, .int .i64 f2, .int .i64 g2, .int .i64 h2, .int .i64 e3, .int .i64 f3, .int .i64 g3, .int .i64 h3] 47 (0, 0)) ∧ w'.heap[DB]? = some (.cells #[.int .i64 n1, .int .i64 n2, .int .i64 n3, .int .i64 n4] 25 (0, 0))) (by kernel_rfl) (G0.out _ HD40) (fun hHeld => ?_)
      refine wpAnyH_take (i := 0) (oi := _) (v := ?_) rfl (by kernel_rfl) (by kernel_rfl) (by kernel_rfl) (fun _ _ _ h => h) (Or.inl ⟨by rfl, ?_⟩) (by assumption) ?_
      rotate_left
      · intro w _; go_simp; (try with_reducible rfl)
      try change wpAnyH _ _ _ _ _ _ _ (Act.put _ (some 58) _) _
      try simp only [act_all]
      refine wpAnyH_take (i := 1) (oi := _) (v := ?_) rfl (by kernel_rfl) (by kernel_rfl) (by kernel_rfl) (fun _ _ _ h => h) (Or.inl ⟨by rfl, ?_⟩) (by assumption) ?_
      rotate_left
      · intro w _; go_simp; (try with_reducible rfl)
      try change wpAnyH _ _ _ _ _ _ _ (Act.put _ (some 59) _) _
      try simp only [act_all]
      refine wpAnyH_take (i := 2) (oi := _) (v := _) rfl (by kernel_rfl) (by kernel_rfl) (by kernel_rfl) (fun _ _ _ h => h) (yieldsIf_load_mid (by rfl) 25 _ rfl (w.heap.size + 1) 12 rfl [.int .i64 e3, .int .i64 f3, .int .i64 g3, .int .i64 h3] _ RBQ3.out Try.underlying25 rfl (by kernel_rfl)) (by assumption) ?_
      try change wpAnyH _ _ _ _ _ _ _ (Act.put _ (some 60) _) _
      try simp only [act_all]
      refine wpAnyH_take (i := 3) (oi := _) (v := ?_) rfl (by kernel_rfl) (by kernel_rfl) (by kernel_rfl) (fun _ _ _ h => h) (Or.inl ⟨by rfl, ?_⟩) (by assumption) ?_
      rotate_left
      · intro w _; go_simp; (try with_reducible rfl)
      try change wpAnyH _ _ _ _ _ _ _ (Act.put _ (some 61) _) _
      try simp only [act_all]
      refine wpAnyH_take (i := 4) (oi := _) (v := ?_) rfl (by kernel_rfl) (by kernel_rfl) (by kernel_rfl) (fun _ _ _ h => h) (Or.inl ⟨by rfl, ?_⟩) (by assumption) ?_
      rotate_left
      · intro w _; go_simp; (try with_reducible rfl)
      try change wpAnyH _ _ _ _ _ _ _ (Act.put _ (some 62) _) _
      try simp only [act_all]
      refine wpAnyH_take (i := 5) (oi := _) (v := _) rfl (by kernel_rfl) (by kernel_rfl) (by kernel_rfl) (fun _ _ _ h => h) (yieldsIf_load_mid (by rfl) 25 _ rfl (w.heap.size + 1) 8 rfl [.int .i64 e2, .int .i64 f2, .int .i64 g2, .int .i64 h2] _ RBQ2.out Try.underlying25 rfl (by kernel_rfl)) (by assumption) ?_
      try change wpAnyH _ _ _ _ _ _ _ (Act.put _ (some 63) _) _
      try simp only [act_all]
      refine wpAnyH_take (i := 6) (oi := _) (v := ?_) rfl (by kernel_rfl) (by kernel_rfl) (by kernel_rfl) (fun _ _ _ h => h) (Or.inl ⟨by rfl, ?_⟩) (by assumption) ?_
      rotate_left
      · intro w _; go_simp; (try with_reducible rfl)
      try change wpAnyH _ _ _ _ _ _ _ (Act.put _ (some 64) _) _
      try simp only [act_all]
      refine wpAnyH_take (i := 7) (oi := _) (v := ?_) rfl (by kernel_rfl) (by kernel_rfl) (by kernel_rfl) (fun _ _ _ h => h) (Or.inl ⟨by rfl, ?_⟩) (by assumption) ?_
      rotate_left
      · intro w _; go_simp; (try with_reducible rfl)
      try change wpAnyH _ _ _ _ _ _ _ (Act.put _ (some 65) _) _
      try simp only [act_all]
      refine wpAnyH_take (i := 8) (oi := _) (v := _) rfl (by kernel_rfl) (by kernel_rfl) (by kernel_rfl) (fun _ _ _ h => h) (yieldsIf_load_mid (by rfl) 25 _ rfl (w.heap.size) 12 rfl [.int .i64 a3, .int .i64 b3, .int .i64 c3, .int .i64 d3] _ RBP3.out Try.underlying25 rfl (by kernel_rfl)) (by assumption) ?_
      try change wpAnyH _ _ _ _ _ _ _ (Act.put _ (some 66) _) _
      try simp only [act_all]
      refine wpAnyH_take (i := 10) (oi := _) (v := ?_) rfl (by kernel_rfl) (by kernel_rfl) (by kernel_rfl) (fun _ _ _ h => h) (Or.inl ⟨by rfl, ?_⟩) (by assumption) ?_
      rotate_left
      · intro w _; go_simp; (try with_reducible rfl)
      try change wpAnyH _ _ _ _ _ _ _ (Act.put _ (some 68) _) _
      try simp only [act_all]
      refine wpAnyH_take (i := 11) (oi := _) (v := ?_) rfl (by kernel_rfl) (by kernel_rfl) (by kernel_rfl) (fun _ _ _ h => h) (Or.inl ⟨by rfl, ?_⟩) (by assumption) ?_
      rotate_left
      · intro w _; go_simp; (try with_reducible rfl)
      try change wpAnyH _ _ _ _ _ _ _ (Act.put _ (some 69) _) _
      try simp only [act_all]
      refine wpAnyH_take (i := 12) (oi := _) (v := _) rfl (by kernel_rfl) (by kernel_rfl) (by kernel_rfl) (fun _ _ _ h => h) (yieldsIf_load_mid (by rfl) 25 _ rfl (w.heap.size + 1) 4 rfl [.int .i64 e1, .int .i64 f1, .int .i64 g1, .int .i64 h1] _ RBQ1.out Try.underlying25 rfl (by kernel_rfl)) (by assumption) ?_
      try change wpAnyH _ _ _ _ _ _ _ (Act.put _ (some 70) _) _
      try simp only [act_all]
      refine wpAnyH_take (i := 14) (oi := _) (v := _) rfl (by kernel_rfl) (by kernel_rfl) (by kernel_rfl) (fun _ _ _ h => h) (yieldsIf_load_mid (by rfl) 25 _ rfl (DB) 0 rfl [.int .i64 n1, .int .i64 n2, .int .i64 n3, .int .i64 n4] _ RBD.out Try.underlying25 rfl (by kernel_rfl)) (by assumption) ?_
      try change wpAnyH _ _ _ _ _ _ _ (Act.put _ (some 72) _) _
      try simp only [act_all]
      refine wpAnyH_take (i := 17) (oi := _) (v := ?_) rfl (by kernel_rfl) (by kernel_rfl) (by kernel_rfl) (fun _ _ _ h => h) (Or.inl ⟨by rfl, ?_⟩) (by assumption) ?_
      rotate_left
      · intro w _; go_simp; (try with_reducible rfl)
      try change wpAnyH _ _ _ _ _ _ _ (Act.put _ (some 75) _) _
      try simp only [act_all]
      refine wpAnyH_ready (rs := [9]) (by kernel_rfl) (by simp) ?_
      refine AllReadyH.cons (o := _) rfl (fun K hK => ?_) AllReadyH.nil
      go_simp
      refine (mulRect_any e2 f2 g2 h2 a3 b3 c3 d3 _ HQ2.out.1 HQ2.out.2 HP3.out.1 HP3.out.2).mono ?_
      rintro e w41 ⟨he, hb⟩
      have HD41 : Below SB V w41 := HD40.trans (hb.mono (Nat.le_trans (Nat.le_of_lt lV) HD40.size))
      have kS41 : w41.heap[SB]? = some (.cells #[.int .i64 s1, .int .i64 s2, .int .i64 s3, .int .i64 s4, .int .i64 t1, .int .i64 t2, .int .i64 t3, .int .i64 t4, .int .i64 u1, .int .i64 u2, .int .i64 u3, .int .i64 u4, .int .i64 0, .int .i64 0, .int .i64 0, .int .i64 0] 47 (0, 0)) := (hb.block _ (by first | omega | (simp; done) | (simp; omega))).trans kS5
      have hz41 := hb.size
      (try simp at hz41)
      clear hb hHeld kS5
      obtain ⟨r, hr⟩ : ∃ r, (mulR ⟨⟨e2, f2⟩, ⟨g2, h2⟩⟩ ⟨⟨a3, b3⟩, ⟨c3, d3⟩⟩) = r := ⟨_, rfl⟩
      rw [hr] at he
      have HR41 := Lib.hid hr
      clear hr
      rcases r with ⟨⟨x1, x2⟩, ⟨x3, x4⟩⟩ | k
      case' bad =>
        obtain rfl : e = .panicked [{ v := .iface 26 (.int .i64 k), recovered := false }] := he
        refine ⟨rfl, ?_, HB0.out.trans (HD41.mono (by omega))⟩
        rw [← HSP.out]; simp only [starR, HDD.out, HT3.out, HT4.out, HT5.out, Out.binds]; simp only [starT, HR41.out, Out.binds, IsO]; (try rfl)
      obtain rfl : e = .returned (.agg #[.int .i64 x1, .int .i64 x2, .int .i64 x3, .int .i64 x4]) := he
      have HO41 := Lib.hid ((okR_iff _).1 (mulR_ok HR41.out))
      refine hK.out _ _ (G0.out _ HD41) (fun hHeld => ?_)
      clear hK K
      try simp only [act_all]
      refine wpAnyH_ready (rs := [13]) (by kernel_rfl) (by simp) ?_
      refine AllReadyH.cons (o := _) rfl (fun K hK => ?_) AllReadyH.nil
      go_simp
      refine (mulRect_any x1 x2 x3 x4 e1 f1 g1 h1 _ HO41.out.1 HO41.out.2 HQ1.out.1 HQ1.out.2).mono ?_
      rintro e w42 ⟨he, hb⟩
      have HD42 : Below SB V w42 := HD41.trans (hb.mono (Nat.le_trans (Nat.le_of_lt lV) HD41.size))
      have kS42 : w42.heap[SB]? = some (.cells #[.int .i64 s1, .int .i64 s2, .int .i64 s3, .int .i64 s4, .int .i64 t1, .int .i64 t2, .int .i64 t3, .int .i64 t4, .int .i64 u1, .int .i64 u2, .int .i64 u3, .int .i64 u4, .int .i64 0, .int .i64 0, .int .i64 0, .int .i64 0] 47 (0, 0)) := (hb.block _ (by first | omega | (simp; done) | (simp; omega))).trans kS41
      have hz42 := hb.size
      (try simp at hz42)
      clear hb hHeld kS41
      obtain ⟨r, hr⟩ : ∃ r, (mulR ⟨⟨x1, x2⟩, ⟨x3, x4⟩⟩ ⟨⟨e1, f1⟩, ⟨g1, h1⟩⟩) = r := ⟨_, rfl⟩
      rw [hr] at he
      have HR42 := Lib.hid hr
      clear hr
      rcases r with ⟨⟨y1, y2⟩, ⟨y3, y4⟩⟩ | k
      case' bad =>
        obtain rfl : e = .panicked [{ v := .iface 26 (.int .i64 k), recovered := false }] := he
        refine ⟨rfl, ?_, HB0.out.trans (HD42.mono (by omega))⟩
        rw [← HSP.out]; simp only [starR, HDD.out, HT3.out, HT4.out, HT5.out, Out.binds]; simp only [starT, HR41.out, HR42.out, Out.binds, IsO]; (try rfl)
      obtain rfl : e = .returned (.agg #[.int .i64 y1, .int .i64 y2, .int .i64 y3, .int .i64 y4]) := he
      have HO42 := Lib.hid ((okR_iff _).1 (mulR_ok HR42.out))
      refine hK.out _ _ (G0.out _ HD42) (fun hHeld => ?_)
      clear hK K
      try simp only [act_all]
      refine wpAnyH_ready (rs := [15]) (by kernel_rfl) (by simp) ?_
      refine AllReadyH.cons (o := _) rfl (fun K hK => ?_) AllReadyH.nil
      go_simp
      refine (divRect_any y1 y2 y3 y4 n1 n2 n3 n4 _ HO42.out.1 HO42.out.2 HOD.out.1 HOD.out.2).mono ?_
      rintro e w43 ⟨he, hb⟩
      have HD43 : Below SB V w43 := HD42.trans (hb.mono (Nat.le_trans (Nat.le_of_lt lV) HD42.size))
      have kS43 : w43.heap[SB]? = some (.cells #[.int .i64 s1, .int .i64 s2, .int .i64 s3, .int .i64 s4, .int .i64 t1, .int .i64 t2, .int .i64 t3, .int .i64 t4, .int .i64 u1, .int .i64 u2, .int .i64 u3, .int .i64 u4, .int .i64 0, .int .i64 0, .int .i64 0, .int .i64 0] 47 (0, 0)) := (hb.block _ (by first | omega | (simp; done) | (simp; omega))).trans kS42
      have hz43 := hb.size
      (try simp at hz43)
      clear hb hHeld kS42
      obtain ⟨r, hr⟩ : ∃ r, (divR ⟨⟨y1, y2⟩, ⟨y3, y4⟩⟩ ⟨⟨n1, n2⟩, ⟨n3, n4⟩⟩) = r := ⟨_, rfl⟩
      rw [hr] at he
      have HR43 := Lib.hid hr
      clear hr
      rcases r with ⟨⟨z1, z2⟩, ⟨z3, z4⟩⟩ | k
      case' bad =>
        obtain rfl : e = .panicked [{ v := .iface 26 (.int .i64 k), recovered := false }] := he
        refine ⟨rfl, ?_, HB0.out.trans (HD43.mono (by omega))⟩
        rw [← HSP.out]; simp only [starR, HDD.out, HT3.out, HT4.out, HT5.out, Out.binds]; simp only [starT, HR41.out, HR42.out, HR43.out, Out.binds, IsO]; (try rfl)
      obtain rfl : e = .returned (.agg #[.int .i64 z1, .int .i64 z2, .int .i64 z3, .int .i64 z4]) := he
      have HO43 := Lib.hid ((okR_iff _).1 (divR_ok HR43.out))
      refine hK.out _ _ (G0.out _ HD43) (fun hHeld => ?_)
      clear hK K
      try simp only [act_all]
      refine wpAnyH_ready (rs := [16]) (by kernel_rfl) (by simp) ?_
      refine AllReadyH.cons (o := _) rfl (fun K hK => ?_) AllReadyH.nil
      go_simp
      refine (addRect_any e3 f3 g3 h3 z1 z2 z3 z4 _ HQ3.out.1 HQ3.out.2 HO43.out.1 HO43.out.2).mono ?_
      rintro e w44 ⟨he, hb⟩
      have HD44 : Below SB V w44 := HD43.trans (hb.mono (Nat.le_trans (Nat.le_of_lt lV) HD43.size))
      have kS44 : w44.heap[SB]? = some (.cells #[.int .i64 s1, .int .i64 s2, .int .i64 s3, .int .i64 s4, .int .i64 t1, .int .i64 t2, .int .i64 t3, .int .i64 t4, .int .i64 u1, .int .i64 u2, .int .i64 u3, .int .i64 u4, .int .i64 0, .int .i64 0, .int .i64 0, .int .i64 0] 47 (0, 0)) := (hb.block _ (by first | omega | (simp; done) | (simp; omega))).trans kS43
      have hz44 := hb.size
      (try simp at hz44)
      clear hb hHeld kS43
      obtain ⟨r, hr⟩ : ∃ r, (addR ⟨⟨e3, f3⟩, ⟨g3, h3⟩⟩ ⟨⟨z1, z2⟩, ⟨z3, z4⟩⟩) = r := ⟨_, rfl⟩
      rw [hr] at he
      have HR44 := Lib.hid hr
      clear hr
      rcases r with ⟨⟨v1, v2⟩, ⟨v3, v4⟩⟩ | k
      case' bad =>
        obtain rfl : e = .panicked [{ v := .iface 26 (.int .i64 k), recovered := false }] := he
        refine ⟨rfl, ?_, HB0.out.trans (HD44.mono (by omega))⟩
        rw [← HSP.out]; simp only [starR, HDD.out, HT3.out, HT4.out, HT5.out, Out.binds]; simp only [starT, HR41.out, HR42.out, HR43.out, HR44.out, Out.binds, IsO]; (try rfl)
      obtain rfl : e = .returned (.agg #[.int .i64 v1, .int .i64 v2, .int .i64 v3, .int .i64 v4]) := he
      have HO44 := Lib.hid ((okR_iff _).1 (addR_ok HR44.out))
      refine hK.out _ _ (G0.out _ HD44) (fun hHeld => ?_)
      clear hK K
      try simp only [act_all]
      refine wpAnyH_take (i := 18) (oi := _) (v := ?_) rfl (by kernel_rfl) (by kernel_rfl) (by kernel_rfl) (fun _ _ _ h => h) (Or.inl ⟨by rfl, ?_⟩) (by assumption) ?_
      rotate_left
      · intro w _; go_simp; (try with_reducible rfl)
      try change wpAnyH _ _ _ _ _ _ _ (Act.put _ (some 76) _) _
      try simp only [act_all]
      refine wpAnyH_ready (rs := [19]) (by kernel_rfl) (by simp) ?_
      refine AllReadyH.cons (o := _) rfl (fun K hK => ?_) AllReadyH.nil
      have HTH := Lib.hid (there_mid kS44 12 4 (show 12 + 4 ≤ 16 by decide))
      have HD45 : Below SB V (w44.setCells SB 12 [.int .i64 v1, .int .i64 v2, .int .i64 v3, .int .i64 v4]) := below_mids (Nat.le_refl _) _ _ HD44
      have kE45 : (w44.setCells SB 12 [.int .i64 v1, .int .i64 v2, .int .i64 v3, .int .i64 v4]).heap[SB]? = some (.cells #[.int .i64 s1, .int .i64 s2, .int .i64 s3, .int .i64 s4, .int .i64 t1, .int .i64 t2, .int .i64 t3, .int .i64 t4, .int .i64 u1, .int .i64 u2, .int .i64 u3, .int .i64 u4, .int .i64 v1, .int .i64 v2, .int .i64 v3, .int .i64 v4] 47 (0, 0)) := block_setCells [.int .i64 v1, .int .i64 v2, .int .i64 v3, .int .i64 v4] 12 _ _ kS44
      rw [if_pos (show Region.wanted _ _ = true from rfl)]
      refine wp_store_mid 25 (.tmp 76) (.tmp 74) rfl SB 12 #[.int .i64 v1, .int .i64 v2, .int .i64 v3, .int .i64 v4] rfl rfl HTH.out (by kernel_rfl) (by simp [Value.oneCell']) ?_
      rw [show (#[.int .i64 v1, .int .i64 v2, .int .i64 v3, .int .i64 v4] : Array Value).toList = [.int .i64 v1, .int .i64 v2, .int .i64 v3, .int .i64 v4] from rfl]
      refine hK.out _ _ (G0.out _ HD45) (fun hHeld => ?_)
      clear hK K
      try simp only [act_all]
      refine wpAnyH_done (by kernel_rfl) ?_ _
      have HTT : starT ⟨⟨e3, f3⟩, ⟨g3, h3⟩⟩ ⟨⟨e2, f2⟩, ⟨g2, h2⟩⟩ ⟨⟨a3, b3⟩, ⟨c3, d3⟩⟩ ⟨⟨e1, f1⟩, ⟨g1, h1⟩⟩ ⟨⟨n1, n2⟩, ⟨n3, n4⟩⟩ = .ok ⟨⟨v1, v2⟩, ⟨v3, v4⟩⟩ := by simp only [starT, HR41.out, HR42.out, HR43.out, HR44.out, Out.binds]
      go_wp2_with fail
      go_meet
      exact ⟨_, _, _, _, HTT, kE45, HD45⟩
    case rest =>
    obtain ⟨v1, v2, v3, v4, ht6, kS6, hK6⟩ := hcut
    have HT6 := Lib.hid ht6
    clear ht6 kS5 hK5
    obtain ⟨V6, hV⟩ : ∃ z, z = wc := ⟨wc, rfl⟩
    subst hV
    have lZ6 : SB < V6.heap.size := by have := hK6.size; omega
    go_upto_region 7 with fail
    have HTT := Lib.hid (there_row (G1.out _ hK6) 16 (Nat.le_refl _))
    have HRS := Lib.hid (range_row kS6 0 [.int .i64 s1, .int .i64 s2, .int .i64 s3, .int .i64 s4, .int .i64 t1, .int .i64 t2, .int .i64 t3, .int .i64 t4, .int .i64 u1, .int .i64 u2, .int .i64 u3, .int .i64 u4, .int .i64 v1, .int .i64 v2, .int .i64 v3, .int .i64 v4] (fun j hj => by simp only [Nat.zero_add, List.getElem?_toArray]))
    have HDF := HB0.out.trans (hK6.mono (by omega))
    have HFIN : Hid (SP = .ok ⟨⟨⟨s1, s2⟩, ⟨s3, s4⟩⟩, ⟨⟨t1, t2⟩, ⟨t3, t4⟩⟩, ⟨⟨u1, u2⟩, ⟨u3, u4⟩⟩, ⟨⟨v1, v2⟩, ⟨v3, v4⟩⟩⟩) := Lib.hid (by rw [← HSP.out]; simp only [starR, HDD.out, HT3.out, HT4.out, HT5.out, HT6.out, Out.binds])
    clear G0 G1 HB0 RBD RBP0 RBP1 RBP2 RBP3 RBQ0 RBQ1 RBQ2 RBQ3
    refine wp_region_lit ?_
    refine wpList_load_mid rfl 47 (.tmp 6) rfl SB 0 rfl [.int .i64 s1, .int .i64 s2, .int .i64 s3, .int .i64 s4, .int .i64 t1, .int .i64 t2, .int .i64 t3, .int .i64 t4, .int .i64 u1, .int .i64 u2, .int .i64 u3, .int .i64 u4, .int .i64 v1, .int .i64 v2, .int .i64 v3, .int .i64 v4] _ HRS.out Try.underlying47 rfl (by kernel_rfl) ?_
    refine wpList_step (fun K hK => ?_); go_simp; refine hK _ _ ?_; clear hK K
    refine wpList_store_mid rfl 49 (.tmp 4) (.tmp 78) rfl (w.heap.size + 1 + 1) 0 #[.int .i64 s1, .int .i64 s2, .int .i64 s3, .int .i64 s4, .int .i64 t1, .int .i64 t2, .int .i64 t3, .int .i64 t4, .int .i64 u1, .int .i64 u2, .int .i64 u3, .int .i64 u4, .int .i64 v1, .int .i64 v2, .int .i64 v3, .int .i64 v4] rfl rfl HTT.out (by kernel_rfl) (by simp [Value.oneCell']) ?_
    have hload : (V6.setCells (w.heap.size + 1 + 1) 0 [.int .i64 s1, .int .i64 s2, .int .i64 s3, .int .i64 s4, .int .i64 t1, .int .i64 t2, .int .i64 t3, .int .i64 t4, .int .i64 u1, .int .i64 u2, .int .i64 u3, .int .i64 u4, .int .i64 v1, .int .i64 v2, .int .i64 v3, .int .i64 v4]).rangeAt (w.heap.size + 1 + 1) 0 [.int .i64 s1, .int .i64 s2, .int .i64 s3, .int .i64 s4, .int .i64 t1, .int .i64 t2, .int .i64 t3, .int .i64 t4, .int .i64 u1, .int .i64 u2, .int .i64 u3, .int .i64 u4, .int .i64 v1, .int .i64 v2, .int .i64 v3, .int .i64 v4] := World.rangeAt_setCells_same V6 _ _ _ HTT.out
    have DZ : Below w.heap.size w (V6.setCells (w.heap.size + 1 + 1) 0 [.int .i64 s1, .int .i64 s2, .int .i64 s3, .int .i64 s4, .int .i64 t1, .int .i64 t2, .int .i64 t3, .int .i64 t4, .int .i64 u1, .int .i64 u2, .int .i64 u3, .int .i64 u4, .int .i64 v1, .int .i64 v2, .int .i64 v3, .int .i64 v4]) := below_mids (by omega) _ _ HDF
    (try rw [show (#[.int .i64 s1, .int .i64 s2, .int .i64 s3, .int .i64 s4, .int .i64 t1, .int .i64 t2, .int .i64 t3, .int .i64 t4, .int .i64 u1, .int .i64 u2, .int .i64 u3, .int .i64 u4, .int .i64 v1, .int .i64 v2, .int .i64 v3, .int .i64 v4] : Array Value).toList = [.int .i64 s1, .int .i64 s2, .int .i64 s3, .int .i64 s4, .int .i64 t1, .int .i64 t2, .int .i64 t3, .int .i64 t4, .int .i64 u1, .int .i64 u2, .int .i64 u3, .int .i64 u4, .int .i64 v1, .int .i64 v2, .int .i64 v3, .int .i64 v4] from rfl])
    generalize V6.setCells (w.heap.size + 1 + 1) 0 [.int .i64 s1, .int .i64 s2, .int .i64 s3, .int .i64 s4, .int .i64 t1, .int .i64 t2, .int .i64 t3, .int .i64 t4, .int .i64 u1, .int .i64 u2, .int .i64 u3, .int .i64 u4, .int .i64 v1, .int .i64 v2, .int .i64 v3, .int .i64 v4] = W3 at *
    have HL := Lib.hid hload
    clear hload HTT HRS
    refine wpList_nil ?_
    refine (‹∀ (a : Act) (w : World), Code.wp Try.prog Code.ret _ a w → _› _ _ ?_)
    apply wp_ret
    obtain ⟨q0, q1, q2, q3, q4, q5, q6, q7, q8, q9, q10, q11, q12, q13, q14, q15⟩ : (W3.cell? ⟨w.heap.size + 1 + 1, 0, none⟩ = some (.int .i64 s1) ∧ W3.cell? ⟨w.heap.size + 1 + 1, 1, none⟩ = some (.int .i64 s2) ∧ W3.cell? ⟨w.heap.size + 1 + 1, 2, none⟩ = some (.int .i64 s3) ∧ W3.cell? ⟨w.heap.size + 1 + 1, 3, none⟩ = some (.int .i64 s4) ∧ W3.cell? ⟨w.heap.size + 1 + 1, 4, none⟩ = some (.int .i64 t1) ∧ W3.cell? ⟨w.heap.size + 1 + 1, 5, none⟩ = some (.int .i64 t2) ∧ W3.cell? ⟨w.heap.size + 1 + 1, 6, none⟩ = some (.int .i64 t3) ∧ W3.cell? ⟨w.heap.size + 1 + 1, 7, none⟩ = some (.int .i64 t4) ∧ W3.cell? ⟨w.heap.size + 1 + 1, 8, none⟩ = some (.int .i64 u1) ∧ W3.cell? ⟨w.heap.size + 1 + 1, 9, none⟩ = some (.int .i64 u2) ∧ W3.cell? ⟨w.heap.size + 1 + 1, 10, none⟩ = some (.int .i64 u3) ∧ W3.cell? ⟨w.heap.size + 1 + 1, 11, none⟩ = some (.int .i64 u4) ∧ W3.cell? ⟨w.heap.size + 1 + 1, 12, none⟩ = some (.int .i64 v1) ∧ W3.cell? ⟨w.heap.size + 1 + 1, 13, none⟩ = some (.int .i64 v2) ∧ W3.cell? ⟨w.heap.size + 1 + 1, 14, none⟩ = some (.int .i64 v3) ∧ W3.cell? ⟨w.heap.size + 1 + 1, 15, none⟩ = some (.int .i64 v4)) := by
      have h := HL.out
      refine ⟨by have h1 := h 0 _ rfl; rwa [Nat.zero_add] at h1, by have h1 := h 1 _ rfl; rwa [Nat.zero_add] at h1, by have h1 := h 2 _ rfl; rwa [Nat.zero_add] at h1, by have h1 := h 3 _ rfl; rwa [Nat.zero_add] at h1, by have h1 := h 4 _ rfl; rwa [Nat.zero_add] at h1, by have h1 := h 5 _ rfl; rwa [Nat.zero_add] at h1, by have h1 := h 6 _ rfl; rwa [Nat.zero_add] at h1, by have h1 := h 7 _ rfl; rwa [Nat.zero_add] at h1, by have h1 := h 8 _ rfl; rwa [Nat.zero_add] at h1, by have h1 := h 9 _ rfl; rwa [Nat.zero_add] at h1, by have h1 := h 10 _ rfl; rwa [Nat.zero_add] at h1, by have h1 := h 11 _ rfl; rwa [Nat.zero_add] at h1, by have h1 := h 12 _ rfl; rwa [Nat.zero_add] at h1, by have h1 := h 13 _ rfl; rwa [Nat.zero_add] at h1, by have h1 := h 14 _ rfl; rwa [Nat.zero_add] at h1, by have h1 := h 15 _ rfl; rwa [Nat.zero_add] at h1⟩
    refine bodyPost_ret (v := .agg #[.int .i64 s1, .int .i64 s2, .int .i64 s3, .int .i64 s4, .int .i64 t1, .int .i64 t2, .int .i64 t3, .int .i64 t4, .int .i64 u1, .int .i64 u2, .int .i64 u3, .int .i64 u4, .int .i64 v1, .int .i64 v2, .int .i64 v3, .int .i64 v4]) (by simp [results, Try.results96, go_sem, q0, q1, q2, q3, q4, q5, q6, q7, q8, q9, q10, q11, q12, q13, q14, q15]) rfl ⟨?_, DZ⟩
    rw [HFIN.out]; rfl
end Go.Proofs.Ytgbnpnenejgnnaa
