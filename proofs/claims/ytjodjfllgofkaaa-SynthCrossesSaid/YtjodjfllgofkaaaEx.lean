import Derived.Test.YtjodjfllgofkaaaDe
import Derived.RangeFuncNested
import Derived.RangeFuncBound
import Derived.RangeFuncCalls
import Derived.RangeFuncLeaves
import Derived.Shelf.Abstract
import Derived.Shelf.RegionOpen
import Derived.OwnWalkIn
import Derived.TacticsInMore
import Derived.LoopNIn
import Derived.LoopIn
import Derived.RegionIn
namespace Go.Proofs.Ytjodjfllgofkaaa
open Go.RowKit Go.Shelf Prm
attribute [local go_sem] Oper.semAt_some

/-- AN ITERATOR THAT KEEPS ITS STATE IN ONE BLOCK ib OF ITS OWN: what it asks of the loop that runs over it (J), and what it gives. -/
def Iter (F : Fence) (n : Nat) (P : Program) (gf : Nat) (lb : Array Value) (S : List Nat → Prop) (N M : Nat) (w0 : World) : Prop :=
  ∀ (l : Nat) (J : Nat → List Nat → World → Prop) (W : World), Below w0.heap.size w0 W →
    (∀ ib pre A B, J ib pre A → Below A.heap.size A B → J ib pre B) →
    (∀ ib pre A k v, W.heap.size ≤ ib → J ib pre A → J ib pre (A.setCell ⟨ib, k, none⟩ v)) →
    (∀ ib pre (k : Nat) A, W.heap.size ≤ ib → ib < A.heap.size → J ib pre A → pre.length < N → k < M → YieldAt F (n - 1) P l #[.int .i64 k] A fun e B => e = .returned (.bool true) ∧ J ib (pre ++ [k]) B ∧ A.heap.size ≤ B.heap.size ∧ B.heap[ib]? = A.heap[ib]?) →
    (∀ ib, J ib [] W) →
    CallsIn F n P gf (#[.func (.yield l) #[] #[]] ++ lb) W fun e W' => (∃ v, e = .returned v) ∧ ∃ ib pre, W.heap.size ≤ ib ∧ S pre ∧ J ib pre W'

/-- The body of a round ends normally; what is no cells, and the iterator's block, lie as they lay. -/
def goOn (I : Nat → List Nat → World → Prop) (ib : Nat) (xs : List Nat) (W : World) : Exit → Act → World → Prop
  | .normal, _, W' => KeepsOthers W W' ∧ I ib xs W' ∧ W'.heap[ib]? = W.heap[ib]?
  | _, _, _ => False

/-- The loop over such an iterator, at the outermost level, whose body never leaves. -/
theorem wpIn_iter {F : Fence} {n : Nat} {P : Program} {g : Operand} {ps : Array Tmp} {assign body : Code} {Q : Exit → Act → World → Prop} {a : Act} {w : World}
    (hro : F.round = none) (h1 : 1 ≤ n) {gf : Nat} {lb : Array Value} (hg : a.eval g = .func (.func gf) #[] lb) (hFg : F.fn gf) (eg : ∀ args w, (callFunc gf args).run P w = .ok (.enter gf args) w)
    {S : List Nat → Prop} {N M : Nat} (hit : Iter F (n - 1) P gf lb S N M w) (hps : ps.size = 1)
    (I : Nat → List Nat → World → Prop)
    (hIb : ∀ ib pre A B, I ib pre A → Below A.heap.size A B → I ib pre B)
    (hIs : ∀ ib pre A k v, w.heap.size + 2 ≤ ib → I ib pre A → I ib pre (A.setCell ⟨ib, k, none⟩ v))
    (hIp : ∀ ib pre A l o o', w.heap.size ≤ l → A.heap[l]? = some o → o.isCells = false → I ib pre A → I ib pre (A.putObj l o'))
    (h0 : ∀ ib, I ib [] w) (a₁ : Nat → Act)
    (hassign : ∀ (l : Nat) (x : Nat) (W : World) (K : Act → World → Prop), K (a₁ x) W →
      assign.wpIn (F.inRound l) (n - 1 - 1) P (Exit.then K (fun _ _ _ => False)) { tmps := (ps.zip #[Value.int .i64 x]).foldl (fun t (p, v) => t.setIfInBounds p v) a.tmps, defers := [] } W)
    (hbody : ∀ (l ib : Nat) (pre : List Nat) (x : Nat) (W : World), w.heap.size + 2 ≤ ib → ib < W.heap.size → I ib pre W → pre.length < N → x < M → body.wpIn (F.inRound l) (n - 1 - 1) P (goOn I ib (pre ++ [x]) W) (a₁ x) W)
    (hdone : ∀ (D ib : Nat) (pre : List Nat) (W : World), w.heap.size ≤ D → S pre → I ib pre W → W.heap[D]? = some (.deferred (some [])) → Q .normal { a with defers := { target := .collected D, args := #[] } :: a.defers } W) :
    (Code.rangeFunc g ps assign body).wpIn F n P Q a w := by
  refine wpIn_rangeFunc fun fn hfn => ?_
  rw [hro]
  obtain ⟨R, hR⟩ : ∃ R : LoopState → Option Code → Loop, R = fun st pe => { state := st, pending := pe, fn, tmps := a.tmps, params := ps, assign, body, defers := w.heap.size } := ⟨_, rfl⟩
  obtain ⟨V, hV⟩ : ∃ V, (w.alloc (.deferred (some []))).alloc (.loop (R .ready none)) = V := ⟨_, rfl⟩
  have hVs : V.heap.size = w.heap.size + 2 := by rw [← hV]; simp
  have rec0 : V.heap[w.heap.size + 1]? = some (.loop (R .ready none)) := by
    have := World.alloc_heap_new (w.alloc (.deferred (some []))) (.loop (R .ready none))
    rw [World.size_alloc] at this
    rwa [hV] at this
  have def0 : V.heap[w.heap.size]? = some (.deferred (some [])) := by
    rw [← hV]; exact (Below.heap_alloc _ _ _ (by simp)).trans (World.alloc_heap_new w _)
  have hbV : Below w.heap.size w V := by
    rw [← hV]; exact ((Below.refl _ w).alloc (Nat.le_refl _) _).alloc (by simp) _
  refine ⟨w.heap.size + 1, [{ target := .collected w.heap.size, args := #[] }], V, { target := .fn (.func gf) lb, args := #[.func (.yield (w.heap.size + 1)) #[] #[]] }, V, gf,
    #[.func (.yield (w.heap.size + 1)) #[] #[]] ++ lb, V, ?_, ?_, ?_, ?_, fun _ => h1, ?_⟩
  · rw [← hV, hR]; exact run_enterLoop_outer _ _ _ _ _
  · simp only [resolve, hg]
    simp [go_sem]
  · intro f' hf'; simp [Target.leads] at hf'; subst hf'; exact hFg
  · simp [invoke, go_sem, eg]
  -- the iterator, at I beside the two blocks of the loop's own
  refine (hit (w.heap.size + 1) (fun ib pre W => I ib pre W ∧ W.heap[w.heap.size + 1]? = some (.loop (R .ready none)) ∧ W.heap[w.heap.size]? = some (.deferred (some []))) V hbV ?_ ?_ ?_ ?_).mono ?_
  · rintro ib pre A B ⟨hi, hl, hk⟩ hb
    exact ⟨hIb ib pre A B hi hb, (hb.block _ (Array.getElem?_eq_some_iff.1 hl).1).trans hl, (hb.block _ (Array.getElem?_eq_some_iff.1 hk).1).trans hk⟩
  · rintro ib pre A k v hib ⟨hi, hl, hk⟩
    rw [hVs] at hib
    exact ⟨hIs ib pre A k v hib hi, (Below.heap_setCell A _ v _ (by show w.heap.size + 1 ≠ ib; omega)).trans hl, (Below.heap_setCell A _ v _ (by show w.heap.size ≠ ib; omega)).trans hk⟩
  · rintro ib pre k A hib hlt ⟨hi, hl, hk⟩ hN hM
    rw [hVs] at hib
    have hs1 := (Array.getElem?_eq_some_iff.1 hl).1
    have hy := run_yield (P := P) (args := #[Value.int .i64 k]) hl (by rw [hR]; simp [hps])
    rw [hR] at hy
    refine ⟨fn, _, assign, body, hy, roundIn_of_wpIn hfn (hassign _ k A _ ⟨_, run_beginRound hl (by rw [hR]), ?_⟩)⟩
    have l2 : (A.putObj (w.heap.size + 1) (.loop { R .ready none with state := .busy })).heap[w.heap.size + 1]? = some (.loop { R .ready none with state := .busy }) := World.putObj_heap_same hs1
    have k2 : (A.putObj (w.heap.size + 1) (.loop { R .ready none with state := .busy })).heap[w.heap.size]? = some (.deferred (some [])) := (World.putObj_heap_other (by omega)).trans hk
    refine wpIn_mono (hbody _ ib pre k _ hib (by simpa using hlt) (hIp ib pre A _ _ _ (by omega) hl rfl hi) hN hM) ?_
    rintro e a3 B hp
    cases e with
    | normal =>
      obtain ⟨hk3, hi3, hib3⟩ := hp
      have l3 := hk3.same _ _ l2 rfl
      have k3 := hk3.same _ _ k2 rfl
      have hr := run_endRound (P := P) none l3
      have hsz := hk3.size
      rw [World.putObj_size] at hsz
      refine ⟨_, _, hr, rfl, ⟨hIp ib _ B _ _ _ (by omega) l3 rfl hi3, ?_, (World.putObj_heap_other (by omega)).trans k3⟩, by rw [World.putObj_size]; exact hsz, ?_⟩
      · rw [World.putObj_heap_same (Array.getElem?_eq_some_iff.1 l3).1, hR]; rfl
      · rw [World.putObj_heap_other (by omega), hib3, World.putObj_heap_other (by omega)]
    | ret => exact hp.elim
    | exit id => exact hp.elim
    | goto t => exact hp.elim
    | panic ch => exact hp.elim
    | outgrown => exact hp.elim
  · intro ib
    exact ⟨hIb ib [] w V (h0 ib) hbV, rec0, def0⟩
  · rintro e W ⟨⟨v, rfl⟩, ib, pre, hib, hS, hi, hl, hk⟩
    exact ⟨none, _, by have := run_endLoop (P := P) hl (by rw [hR]; simp); rw [hR] at this; exact this, hdone _ ib pre _ (Nat.le_refl _) hS (hIp ib pre W _ _ _ (by omega) hl rfl hi) ((World.putObj_heap_other (by omega)).trans hk)⟩
end Go.Proofs.Ytjodjfllgofkaaa

namespace Go.Proofs.Ytjodjfllgofkaaa
open Go.RowKit Go.Shelf Prm
attribute [local go_sem] Oper.semAt_some

set_option maxRecDepth 100000 in
set_option maxHeartbeats 1000000 in
theorem exchanges_in (n : Nat) (ao : Option Addr) (len cap : Nat) (w : World) :
    CallsIn Fence.wide n Try.prog 74 #[.slice ao len cap] w fun e w' => e = .returned (.func (.func 100) #[] #[.pointer (some ⟨w.heap.size, 0, none⟩)]) ∧ w.alloc (.cells #[.slice ao len cap] 36) = w' := by
  refine callsIn_of_wp Try.func74 rfl trivial ?_ rfl
  simp only [Try.ntmps74, List.size_toArray, List.length_cons, List.length_nil, Nat.reduceAdd, Nat.reduceSub, Array.replicate_succ, Array.replicate_zero, List.push_toArray, List.append_toArray, List.nil_append, List.cons_append]
  gi_wp2
  go_ret
  exact ⟨rfl, rfl⟩

/-- What block g holds, as numbers. -/
def curI (w : World) (g : Nat) (i : Nat) : Int := match w.cell? ⟨g, i, none⟩ with
  | some (.int _ v) => v
  | _ => 0
theorem curI_eq {w : World} {g n : Nat} {f : Nat → Int} (h : Intw w g n f) : inv n (curI w g) = inv n f := inv_congr fun i hi => by unfold curI; rw [(h i hi).1]
theorem Intw.swap {w : World} {g n k : Nat} {f : Nat → Int} (h : Intw w g n f) (hk : k + 1 < n) {x y : Int} (hx : f k = x) (hy : f (k + 1) = y) : Intw ((w.setCell ⟨g, k, none⟩ (.int .i64 y)).setCell ⟨g, k + 1, none⟩ (.int .i64 x)) g n (swp f k) :=
  ((h.store (j := k) (by omega) y).store (j := k + 1) hk x).congr fun i _ => by
    unfold updI swp
    by_cases e1 : i = k
    · subst e1; rw [if_neg (by omega), if_pos rfl, if_pos rfl, hy]
    · by_cases e2 : i = k + 1
      · rw [if_pos e2, if_neg e1, if_pos e2, hx]
      · rw [if_neg e2, if_neg e1, if_neg e1, if_neg e2]

set_option maxRecDepth 100000 in
set_option maxHeartbeats 4000000 in
theorem exch_iter (n Bp len cap b o : Nat) (f : Nat → Int) (w0 : World) (h1 : 1 ≤ len) (hlen : len ≤ 64) (hBp : w0.cell? ⟨Bp, 0, none⟩ = some (.slice (some ⟨b, o, none⟩) len cap)) (hc : ∀ i, i < len → w0.cell? ⟨b, o + i, none⟩ = some (.int .i64 (f i))) :
    Iter Fence.wide n Try.prog 100 #[.pointer (some ⟨Bp, 0, none⟩)] (fun pre => ∃ g, Runs len f pre g ∧ desc g (len - 1) 0 = none) (inv len f) len w0 := by
  intro l J W hW hJb hJs hY h0
  have HC : Hid (∀ i, i < len → W.cell? ⟨b, o + i, none⟩ = some (.int .i64 (f i))) := Lib.hid fun i hi => (hW.cell (p := ⟨b, o + i, none⟩) (World.block_lt_of_cell? w0 _ (hc i hi))).trans (hc i hi)
  have cB : W.cell? ⟨Bp, 0, none⟩ = some (.slice (some ⟨b, o, none⟩) len cap) := (hW.cell (p := ⟨Bp, 0, none⟩) (World.block_lt_of_cell? w0 _ hBp)).trans hBp
  have HJB := Lib.hid hJb
  have HJS := Lib.hid hJs
  have HY := Lib.hid hY
  have H0 := Lib.hid h0
  have h64 : (len : Int) ≤ 64 := by omega
  clear hJb hJs hY h0 hc hBp hW
  refine callsIn_of_wp Try.func100 rfl trivial ?_ rfl
  simp only [Try.ntmps100, List.size_toArray, List.length_cons, List.length_nil, Nat.reduceAdd, Nat.reduceSub, Array.replicate_succ, Array.replicate_zero, List.push_toArray, List.append_toArray, List.nil_append, List.cons_append]
  gi_wp2_with fail
  refine ⟨trivial, (fun h => by simp [Fence.wide] at h), (callsIn_wide.2 (clone_any len cap b o f _ h1 hlen HC.out)).mono ?_⟩
  rintro e w1 ⟨⟨ib, cap1, rfl, hiw, hB, hlt, _, _⟩, hb⟩
  have HI := Lib.hid hiw
  have HJ := Lib.hid (HJB.out ib [] _ _ (H0.out ib) hb)
  clear hb hiw cB
  gi_wp2_with fail
  refine ⟨trivial, (fun h => by simp [Fence.wide] at h), (callsIn_wide.2 (descent_any len cap1 _ f _ h1 (by omega) HI.out.ints)).mono ?_⟩
  obtain ⟨d0, hd0⟩ : ∃ d0, opI (desc f (len - 1) 0) = d0 := ⟨_, rfl⟩
  rw [hd0]
  have HD0 := Lib.hid hd0
  clear hd0
  rintro e w2 ⟨rfl, hb⟩
  have HI2 := Lib.hid (HI.out.keep hb)
  have HJ2 := Lib.hid (HJB.out ib [] _ _ HJ.out hb)
  have hlt2 : ib < w2.heap.size := Nat.lt_of_lt_of_le hlt hb.size
  clear hb HI HJ hlt
  gi_wp2_with fail
  gi_loopw [4] (fun d wr => ∃ (pre : List Nat) (g : Nat → Int) (dv : Int), d = .int .i64 dv ∧ Hid (opI (desc g (len - 1) 0) = dv) ∧ Hid (Runs len f pre g) ∧ Hid (Intw wr ib len g) ∧ Hid (J ib pre wr) ∧ ib < wr.heap.size) (fun _ wr => inv len (curI wr ib))
  case atStart => exact ⟨[], f, d0, rfl, HD0, Lib.hid .nil, HI2, HJ2, hlt2⟩
  case round =>
    obtain ⟨pre, g, dv, rfl, HDV, HR, HW, HJ3, hlt3⟩ := hrel
    clear HI2 HJ2
    obtain ⟨r, hr⟩ : ∃ r, desc g (len - 1) 0 = r := ⟨_, rfl⟩
    have HD := Lib.hid hr
    clear hr
    cases r with
    | none =>
      obtain rfl : -1 = dv := by have := HDV.out; rw [HD.out] at this; exact this
      gi_wp2
      go_end0
      exact ⟨⟨_, rfl⟩, ib, pre, hB, ⟨g, HR.out, HD.out⟩, HJ3.out⟩
    | some k =>
      obtain rfl : (k : Int) = dv := by have := HDV.out; rw [HD.out] at this; exact this
      obtain ⟨_, hk, hgk⟩ := desc_some HD.out
      have hk1 : k + 1 < len := by omega
      have hk1' : (k : Int) + 1 < len := by omega
      obtain ⟨x, hx⟩ : ∃ x, g k = x := ⟨_, rfl⟩
      obtain ⟨y, hy⟩ : ∃ y, g (k + 1) = y := ⟨_, rfl⟩
      obtain ⟨c0, d0⟩ := HW.out k (by omega)
      obtain ⟨c1, d1⟩ := HW.out (k + 1) hk1
      rw [hx] at c0
      rw [hy] at c1
      have HS : Hid (Intw ((wr.setCell ⟨ib, k, none⟩ (.int .i64 y)).setCell ⟨ib, k + 1, none⟩ (.int .i64 x)) ib len (swp g k)) := Lib.hid (HW.out.swap hk1 hx hy)
      have HV : Hid (inv len (swp g k) + 1 = inv len g) := Lib.hid (inv_swp hk1 hgk)
      have HJ4 : Hid (J ib pre ((wr.setCell ⟨ib, k, none⟩ (.int .i64 y)).setCell ⟨ib, k + 1, none⟩ (.int .i64 x))) := Lib.hid (HJS.out ib pre _ _ _ hB (HJS.out ib pre _ _ _ hB HJ3.out))
      have HMR : Hid (inv len (curI wr ib) = inv len g) := Lib.hid (curI_eq HW.out)
      clear hx hy hgk hk
      gi_wp2
      gi_region
      gi_wp2
      obtain ⟨wd, hwd⟩ : ∃ wd, ((wr.setCell ⟨ib, k, none⟩ (.int .i64 y)).setCell ⟨ib, k + 1, none⟩ (.int .i64 x)).drew = wd := ⟨_, rfl⟩
      rw [hwd]
      have HW5 : Hid (Intw wd ib len (swp g k)) := Lib.hid (by rw [← hwd]; exact HS.out)
      have hJ5 : J ib pre wd := by rw [← hwd]; exact HJB.out ib pre _ _ HJ4.out (Below.refl _ _).drew
      have hlt5 : ib < wd.heap.size := World.block_lt_of_cell? wd _ (HW5.out k (by omega)).1
      obtain ⟨fn, tmps, assign, body, hy, hRn⟩ := HY.out ib pre k wd hB hlt5 hJ5 (by have := HR.out.inv; have := HV.out; omega) (by omega)
      rw [hy, Oper.uponIn_round]
      clear hwd hy HS HJ4 HJ3 HW c0 c1 d0 d1 hJ5
      refine ⟨fun h => by simp [Fence.wide] at h, hRn.mono ?_⟩
      rintro e w5 ⟨rfl, hJ6, hs6, hb6⟩
      have HJ6 := Lib.hid hJ6
      have HW6 : Hid (Intw w5 ib len (swp g k)) := Lib.hid (HW5.out.block hb6)
      have hlt6 : ib < w5.heap.size := Nat.lt_of_lt_of_le hlt5 hs6
      clear hRn hJ6 hb6 HW5
      gi_wp2_with fail
      obtain ⟨d1, hd1⟩ : ∃ d1, opI (desc (swp g k) (len - 1) 0) = d1 := ⟨_, rfl⟩
      have HD1 := Lib.hid hd1
      refine ⟨trivial, (fun h => by simp [Fence.wide] at h), (callsIn_wide.2 (descent_any len cap1 _ (swp g k) _ h1 (by omega) HW6.out.ints)).mono ?_⟩
      rw [hd1]
      clear hd1
      rintro e w7 ⟨rfl, hb7⟩
      have HJ7 := Lib.hid (HJB.out ib _ _ _ HJ6.out hb7)
      have HW7 := Lib.hid (HW6.out.keep hb7)
      have hlt7 : ib < w7.heap.size := Nat.lt_of_lt_of_le hlt6 hb7.size
      have HM : Hid (inv len (curI w7 ib) + 1 = inv len g) := Lib.hid (by rw [curI_eq HW7.out]; exact HV.out)
      have HM2 : Hid (inv len (curI wr ib) = inv len g) := Lib.hid HMR.out
      clear hb7 HJ6 HW6
      gi_wp2_with fail
      go_roundw
      case rel => exact ⟨pre ++ [k], swp g k, d1, rfl, HD1, Lib.hid (HR.out.step HD.out), HW7, HJ7, hlt7⟩
      case measure => have := HM.out; have := HM2.out; omega
end Go.Proofs.Ytjodjfllgofkaaa
