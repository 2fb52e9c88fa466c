import Derived.Test.YtpjfpkhcadombaaDe
import Derived.RangeFuncNested
import Derived.RangeFuncBound
import Derived.RangeFuncCalls
import Derived.RangeFuncLeaves
import Derived.Shelf.Abstract
import Derived.Shelf.RegionOpen
import Derived.OwnWalkIn
import Derived.TacticsInMore
import Derived.LoopNIn
import Derived.LoopIn
namespace Go.Proofs.Ytpjfpkhcadombaa
open Go.RowKit Go.Shelf Prm
attribute [local go_sem] Oper.semAt_some

/-- AN ITERATOR THAT KEEPS ITS STATE IN ONE BLOCK ib OF ITS OWN: what it asks of the loop that runs over it (J), and what it gives. -/
def Iter (F : Fence) (n : Nat) (P : Program) (gf : Nat) (lb : Array Value) (S : List Nat → Prop) (N M : Nat) (w0 : World) : Prop :=
  ∀ (l : Nat) (J : Nat → List Nat → World → Prop) (W : World), Below w0.heap.size w0 W →
    (∀ ib pre A B, J ib pre A → Below A.heap.size A B → J ib pre B) →
    (∀ ib pre A k v, W.heap.size ≤ ib → J ib pre A → J ib pre (A.setCell ⟨ib, k, none⟩ v)) →
    (∀ ib pre (k : Nat) A, W.heap.size ≤ ib → ib < A.heap.size → J ib pre A → pre.length < N → k < M → YieldAt F (n - 1) P l #[.int .i64 k] A fun e B => e = .returned (.bool true) ∧ J ib (pre ++ [k]) B ∧ A.heap.size ≤ B.heap.size ∧ B.heap[ib]? = A.heap[ib]?) →
    (∀ ib, J ib [] W) →
    CallsIn F n P gf (#[.func (.yield l) #[] #[]] ++ lb) W fun e W' => (∃ v, e = .returned v) ∧ ∃ ib pre, W.heap.size ≤ ib ∧ S pre ∧ J ib pre W'

/-- The body of a round ends normally; what is no cells, and the iterator's block, lie as they lay. -/
def goOn (I : Nat → List Nat → World → Prop) (ib : Nat) (xs : List Nat) (W : World) : Exit → Act → World → Prop
  | .normal, _, W' => KeepsOthers W W' ∧ I ib xs W' ∧ W'.heap[ib]? = W.heap[ib]?
  | _, _, _ => False

/-- The loop over such an iterator, at the outermost level, whose body never leaves. -/
theorem wpIn_iter {F : Fence} {n : Nat} {P : Program} {g : Operand} {ps : Array Tmp} {assign body : Code} {Q : Exit → Act → World → Prop} {a : Act} {w : World}
    (hro : F.round = none) (h1 : 1 ≤ n) {gf : Nat} {lb : Array Value} (hg : a.eval g = .func (.func gf) #[] lb) (hFg : F.fn gf) (eg : ∀ args w, (callFunc gf args).run P w = .ok (.enter gf args) w)
    {S : List Nat → Prop} {N M : Nat} (hit : Iter F (n - 1) P gf lb S N M w) (hps : ps.size = 1)
    (I : Nat → List Nat → World → Prop)
    (hIb : ∀ ib pre A B, I ib pre A → Below A.heap.size A B → I ib pre B)
    (hIs : ∀ ib pre A k v, w.heap.size + 2 ≤ ib → I ib pre A → I ib pre (A.setCell ⟨ib, k, none⟩ v))
    (hIp : ∀ ib pre A l o o', w.heap.size ≤ l → A.heap[l]? = some o → o.isCells = false → I ib pre A → I ib pre (A.putObj l o'))
    (h0 : ∀ ib, I ib [] w) (a₁ : Nat → Act)
    (hassign : ∀ (l : Nat) (x : Nat) (W : World) (K : Act → World → Prop), K (a₁ x) W →
      assign.wpIn (F.inRound l) (n - 1 - 1) P (Exit.then K (fun _ _ _ => False)) { tmps := (ps.zip #[Value.int .i64 x]).foldl (fun t (p, v) => t.setIfInBounds p v) a.tmps, defers := [] } W)
    (hbody : ∀ (l ib : Nat) (pre : List Nat) (x : Nat) (W : World), w.heap.size + 2 ≤ ib → ib < W.heap.size → I ib pre W → pre.length < N → x < M → body.wpIn (F.inRound l) (n - 1 - 1) P (goOn I ib (pre ++ [x]) W) (a₁ x) W)
    (hdone : ∀ (D ib : Nat) (pre : List Nat) (W : World), w.heap.size ≤ D → S pre → I ib pre W → W.heap[D]? = some (.deferred (some [])) → Q .normal { a with defers := { target := .collected D, args := #[] } :: a.defers } W) :
    (Code.rangeFunc g ps assign body).wpIn F n P Q a w := by
  refine wpIn_rangeFunc fun fn hfn => ?_
  rw [hro]
  obtain ⟨R, hR⟩ : ∃ R : LoopState → Option Code → Loop, R = fun st pe => { state := st, pending := pe, fn, tmps := a.tmps, params := ps, assign, body, defers := w.heap.size } := ⟨_, rfl⟩
  obtain ⟨V, hV⟩ : ∃ V, (w.alloc (.deferred (some []))).alloc (.loop (R .ready none)) = V := ⟨_, rfl⟩
  have hVs : V.heap.size = w.heap.size + 2 := by rw [← hV]; simp
  have rec0 : V.heap[w.heap.size + 1]? = some (.loop (R .ready none)) := by
    have := World.alloc_heap_new (w.alloc (.deferred (some []))) (.loop (R .ready none))
    rw [World.size_alloc] at this
    rwa [hV] at this
  have def0 : V.heap[w.heap.size]? = some (.deferred (some [])) := by
    rw [← hV]; exact (Below.heap_alloc _ _ _ (by simp)).trans (World.alloc_heap_new w _)
  have hbV : Below w.heap.size w V := by
    rw [← hV]; exact ((Below.refl _ w).alloc (Nat.le_refl _) _).alloc (by simp) _
  refine ⟨w.heap.size + 1, [{ target := .collected w.heap.size, args := #[] }], V, { target := .fn (.func gf) lb, args := #[.func (.yield (w.heap.size + 1)) #[] #[]] }, V, gf,
    #[.func (.yield (w.heap.size + 1)) #[] #[]] ++ lb, V, ?_, ?_, ?_, ?_, fun _ => h1, ?_⟩
  · rw [← hV, hR]; exact run_enterLoop_outer _ _ _ _ _
  · simp only [resolve, hg]
    simp [go_sem]
  · intro f' hf'; simp [Target.leads] at hf'; subst hf'; exact hFg
  · simp [invoke, go_sem, eg]
  -- the iterator, at I beside the two blocks of the loop's own
  refine (hit (w.heap.size + 1) (fun ib pre W => I ib pre W ∧ W.heap[w.heap.size + 1]? = some (.loop (R .ready none)) ∧ W.heap[w.heap.size]? = some (.deferred (some []))) V hbV ?_ ?_ ?_ ?_).mono ?_
  · rintro ib pre A B ⟨hi, hl, hk⟩ hb
    exact ⟨hIb ib pre A B hi hb, (hb.block _ (Array.getElem?_eq_some_iff.1 hl).1).trans hl, (hb.block _ (Array.getElem?_eq_some_iff.1 hk).1).trans hk⟩
  · rintro ib pre A k v hib ⟨hi, hl, hk⟩
    rw [hVs] at hib
    exact ⟨hIs ib pre A k v hib hi, (Below.heap_setCell A _ v _ (by show w.heap.size + 1 ≠ ib; omega)).trans hl, (Below.heap_setCell A _ v _ (by show w.heap.size ≠ ib; omega)).trans hk⟩
  · rintro ib pre k A hib hlt ⟨hi, hl, hk⟩ hN hM
    rw [hVs] at hib
    have hs1 := (Array.getElem?_eq_some_iff.1 hl).1
    have hy := run_yield (P := P) (args := #[Value.int .i64 k]) hl (by rw [hR]; simp [hps])
    rw [hR] at hy
    refine ⟨fn, _, assign, body, hy, roundIn_of_wpIn hfn (hassign _ k A _ ⟨_, run_beginRound hl (by rw [hR]), ?_⟩)⟩
    have l2 : (A.putObj (w.heap.size + 1) (.loop { R .ready none with state := .busy })).heap[w.heap.size + 1]? = some (.loop { R .ready none with state := .busy }) := World.putObj_heap_same hs1
    have k2 : (A.putObj (w.heap.size + 1) (.loop { R .ready none with state := .busy })).heap[w.heap.size]? = some (.deferred (some [])) := (World.putObj_heap_other (by omega)).trans hk
    refine wpIn_mono (hbody _ ib pre k _ hib (by simpa using hlt) (hIp ib pre A _ _ _ (by omega) hl rfl hi) hN hM) ?_
    rintro e a3 B hp
    cases e with
    | normal =>
      obtain ⟨hk3, hi3, hib3⟩ := hp
      have l3 := hk3.same _ _ l2 rfl
      have k3 := hk3.same _ _ k2 rfl
      have hr := run_endRound (P := P) none l3
      have hsz := hk3.size
      rw [World.putObj_size] at hsz
      refine ⟨_, _, hr, rfl, ⟨hIp ib _ B _ _ _ (by omega) l3 rfl hi3, ?_, (World.putObj_heap_other (by omega)).trans k3⟩, by rw [World.putObj_size]; exact hsz, ?_⟩
      · rw [World.putObj_heap_same (Array.getElem?_eq_some_iff.1 l3).1, hR]; rfl
      · rw [World.putObj_heap_other (by omega), hib3, World.putObj_heap_other (by omega)]
    | ret => exact hp.elim
    | exit id => exact hp.elim
    | goto t => exact hp.elim
    | panic ch => exact hp.elim
    | outgrown => exact hp.elim
  · intro ib
    exact ⟨hIb ib [] w V (h0 ib) hbV, rec0, def0⟩
  · rintro e W ⟨⟨v, rfl⟩, ib, pre, hib, hS, hi, hl, hk⟩
    exact ⟨none, _, by have := run_endLoop (P := P) hl (by rw [hR]; simp); rw [hR] at this; exact this, hdone _ ib pre _ (Nat.le_refl _) hS (hIp ib pre W _ _ _ (by omega) hl rfl hi) ((World.putObj_heap_other (by omega)).trans hk)⟩
end Go.Proofs.Ytpjfpkhcadombaa
