import Derived.Test.YtfilofnkiocbeaaLp8
import Derived.RangeFuncNested
import Derived.RangeFuncBound
import Derived.RangeFuncCalls
import Derived.RangeFuncLeaves
import Derived.Shelf.Abstract
import Derived.Shelf.RegionOpen
import Derived.OwnWalkIn
import Derived.TacticsInMore
import Derived.LoopNIn
import Derived.LoopIn
import Derived.RegionIn
namespace Go.Proofs.Ytfilofnkiocbeaa
open Go.RowKit Go.Shelf Prm
attribute [local go_sem] Oper.semAt_some
/-- What a round leaves alone: all blocks from lo on that stand. -/
def KeepsFrom (lo : Nat) (A B : World) : Prop := A.heap.size ≤ B.heap.size ∧ ∀ b, lo ≤ b → b < A.heap.size → B.heap[b]? = A.heap[b]?
/-- AN ITERATOR THAT YIELDS ONE VALUE FOR EACH CHOSEN NUMBER BELOW N, made anew each time, and stops as soon as it is told to. It reads what Kp keeps, and blocks of its own. -/
def IterV {α : Type} (F : Fence) (n : Nat) (P : Program) (gf : Nat) (lb : Array Value) (Ok : α → Prop) (Y : α → Nat → Value → World → Prop) (sel : α → Nat → Bool) (N : α → Nat) (Kp : World → Prop) (w0 : World) : Prop :=
  ∀ (l : Nat) (J : α → Nat → World → Prop) (D : World → Prop) (W : World), Below w0.heap.size w0 W →
    (∀ x c A B, J x c A → Below A.heap.size A B → J x c B) →
    (∀ x c A, J x c A → Kp A) →
    (∀ A B, D A → Below A.heap.size A B → D B) →
    (∀ x c A v, W.heap.size ≤ A.heap.size → Ok x → J x c A → c < N x → sel x c = true → Y x c v A → YieldAt F (n - 1) P l #[v] A fun e B => KeepsFrom W.heap.size A B ∧ (e = .returned (.bool true) ∧ J x (c + 1) B ∨ e = .returned (.bool false) ∧ D B)) →
    (∀ x c A, Ok x → c < N x → sel x c = false → J x c A → J x (c + 1) A) →
    (∀ x, J x 0 W) → Kp W →
    CallsIn F n P gf (#[.func (.yield l) #[] #[]] ++ lb) W fun e W' => (∃ v, e = .returned v) ∧ ((∃ x, Ok x ∧ J x (N x) W') ∨ D W')

/-- A round's body ends normally, or by a return; what is no cells lies as it lay, and so do all blocks from lo on. -/
def goOnV (I E : World → Prop) (lo : Nat) (W : World) : Exit → Act → World → Prop
  | .normal, _, W' => KeepsOthers W W' ∧ KeepsFrom lo W W' ∧ I W'
  | .ret, _, W' => KeepsOthers W W' ∧ KeepsFrom lo W W' ∧ E W'
  | _, _, _ => False

/-- The loop over such an iterator, at the outermost level. -/
theorem wpIn_iterV {α : Type} {F : Fence} {n : Nat} {P : Program} {g : Operand} {ps : Array Tmp} {assign body : Code} {Q : Exit → Act → World → Prop} {a : Act} {w : World}
    (hro : F.round = none) (h1 : 1 ≤ n) {gf : Nat} {lb : Array Value} (hg : a.eval g = .func (.func gf) #[] lb) (hFg : F.fn gf) (eg : ∀ args w, (callFunc gf args).run P w = .ok (.enter gf args) w)
    {Ok : α → Prop} {Y : α → Nat → Value → World → Prop} {sel : α → Nat → Bool} {N : α → Nat} {Kp : World → Prop} (hit : IterV F (n - 1) P gf lb Ok Y sel N Kp w) (hps : ps.size = 1)
    (I : α → Nat → World → Prop) (E : World → Prop)
    (hIb : ∀ x c A B, I x c A → Below A.heap.size A B → I x c B)
    (hIp : ∀ x c A l o o', w.heap.size ≤ l → A.heap[l]? = some o → o.isCells = false → I x c A → I x c (A.putObj l o'))
    (hEb : ∀ A B, E A → Below A.heap.size A B → E B)
    (hEp : ∀ A l o o', w.heap.size ≤ l → A.heap[l]? = some o → o.isCells = false → E A → E (A.putObj l o'))
    (hIk : ∀ x c A, I x c A → Kp A) (hK : ∀ A, Below w.heap.size w A → Kp A)
    (hIs : ∀ x c A, Ok x → c < N x → sel x c = false → I x c A → I x (c + 1) A)
    (h0 : ∀ x, I x 0 w) (a₁ : Value → World → Act) (Wa : Value → World → World) (hWa : ∀ v W, Below W.heap.size W (Wa v W))
    (hassign : ∀ (l : Nat) (x : α) (c : Nat) (v : Value) (W : World) (K : Act → World → Prop), Y x c v W → K (a₁ v W) (Wa v W) →
      assign.wpIn (F.inRound l) (n - 1 - 1) P (Exit.then K (fun _ _ _ => False)) { tmps := (ps.zip #[v]).foldl (fun t (p, v) => t.setIfInBounds p v) a.tmps, defers := [] } W)
    (hbody : ∀ (l : Nat) (x : α) (c : Nat) (v : Value) (A : World) (o o' : Obj), w.heap.size + 2 ≤ A.heap.size → Ok x → I x c A → c < N x → sel x c = true → Y x c v A → w.heap.size ≤ l → l < A.heap.size → (Wa v A).heap[l]? = some o → o.isCells = false → I x c ((Wa v A).putObj l o') →
      body.wpIn (F.inRound l) (n - 1 - 1) P (goOnV (I x (c + 1)) E (w.heap.size + 2) ((Wa v A).putObj l o')) (a₁ v A) ((Wa v A).putObj l o'))
    (hdone : ∀ (D : Nat) (W : World), w.heap.size ≤ D → (∃ x, Ok x ∧ I x (N x) W) → W.heap[D]? = some (.deferred (some [])) → Q .normal { a with defers := { target := .collected D, args := #[] } :: a.defers } W)
    (hret : ∀ (D : Nat) (W : World), w.heap.size ≤ D → E W → W.heap[D]? = some (.deferred (some [])) → Q .ret { a with defers := { target := .collected D, args := #[] } :: a.defers } W) :
    (Code.rangeFunc g ps assign body).wpIn F n P Q a w := by
  refine wpIn_rangeFunc fun fn hfn => ?_
  rw [hro]
  obtain ⟨R, hR⟩ : ∃ R : LoopState → Option Code → Loop, R = fun st pe => { state := st, pending := pe, fn, tmps := a.tmps, params := ps, assign, body, defers := w.heap.size } := ⟨_, rfl⟩
  obtain ⟨V, hV⟩ : ∃ V, (w.alloc (.deferred (some []))).alloc (.loop (R .ready none)) = V := ⟨_, rfl⟩
  have hVs : V.heap.size = w.heap.size + 2 := by rw [← hV]; simp
  have rec0 : V.heap[w.heap.size + 1]? = some (.loop (R .ready none)) := by
    have := World.alloc_heap_new (w.alloc (.deferred (some []))) (.loop (R .ready none))
    rw [World.size_alloc] at this
    rwa [hV] at this
  have def0 : V.heap[w.heap.size]? = some (.deferred (some [])) := by
    rw [← hV]; exact (Below.heap_alloc _ _ _ (by simp)).trans (World.alloc_heap_new w _)
  have hbV : Below w.heap.size w V := by
    rw [← hV]; exact ((Below.refl _ w).alloc (Nat.le_refl _) _).alloc (by simp) _
  refine ⟨w.heap.size + 1, [{ target := .collected w.heap.size, args := #[] }], V, { target := .fn (.func gf) lb, args := #[.func (.yield (w.heap.size + 1)) #[] #[]] }, V, gf,
    #[.func (.yield (w.heap.size + 1)) #[] #[]] ++ lb, V, ?_, ?_, ?_, ?_, fun _ => h1, ?_⟩
  · rw [← hV, hR]; exact run_enterLoop_outer _ _ _ _ _
  · simp only [resolve, hg]
    simp [go_sem]
  · intro f' hf'; simp [Target.leads] at hf'; subst hf'; exact hFg
  · simp [invoke, go_sem, eg]
  refine (hit (w.heap.size + 1) (fun x c W => I x c W ∧ W.heap[w.heap.size + 1]? = some (.loop (R .ready none)) ∧ W.heap[w.heap.size]? = some (.deferred (some [])))
    (fun W => E W ∧ W.heap[w.heap.size + 1]? = some (.loop (R .done (some .ret))) ∧ W.heap[w.heap.size]? = some (.deferred (some []))) V hbV ?_ ?_ ?_ ?_ ?_ ?_ (hK V hbV)).mono ?_
  · rintro x c A B ⟨hi, hl, hk⟩ hb
    exact ⟨hIb x c A B hi hb, (hb.block _ (Array.getElem?_eq_some_iff.1 hl).1).trans hl, (hb.block _ (Array.getElem?_eq_some_iff.1 hk).1).trans hk⟩
  · rintro x c A ⟨hi, _⟩
    exact hIk x c A hi
  · rintro A B ⟨hi, hl, hk⟩ hb
    exact ⟨hEb A B hi hb, (hb.block _ (Array.getElem?_eq_some_iff.1 hl).1).trans hl, (hb.block _ (Array.getElem?_eq_some_iff.1 hk).1).trans hk⟩
  · rintro x c A v hsA hok ⟨hi, hl, hk⟩ hN hsel hYv
    rw [hVs] at hsA
    have hs1 := (Array.getElem?_eq_some_iff.1 hl).1
    have hy := run_yield (P := P) (args := #[v]) hl (by rw [hR]; simp [hps])
    rw [hR] at hy
    have hlW : (Wa v A).heap[w.heap.size + 1]? = some (.loop (R .ready none)) := ((hWa v A).block _ hs1).trans hl
    have hkW : (Wa v A).heap[w.heap.size]? = some (.deferred (some [])) := ((hWa v A).block _ (by omega)).trans hk
    have hs2 := (Array.getElem?_eq_some_iff.1 hlW).1
    refine ⟨fn, _, assign, body, hy, roundIn_of_wpIn hfn (hassign _ x c v A _ hYv ⟨_, run_beginRound hlW (by rw [hR]), ?_⟩)⟩
    have l2 : ((Wa v A).putObj (w.heap.size + 1) (.loop { R .ready none with state := .busy })).heap[w.heap.size + 1]? = some (.loop { R .ready none with state := .busy }) := World.putObj_heap_same hs2
    have k2 : ((Wa v A).putObj (w.heap.size + 1) (.loop { R .ready none with state := .busy })).heap[w.heap.size]? = some (.deferred (some [])) := (World.putObj_heap_other (by omega)).trans hkW
    have hiW := hIb x c A _ hi (hWa v A)
    have kf : ∀ B, KeepsFrom (w.heap.size + 2) ((Wa v A).putObj (w.heap.size + 1) (.loop { R .ready none with state := .busy })) B → ∀ o', KeepsFrom V.heap.size A (B.putObj (w.heap.size + 1) o') := fun B hkf o' => by
      rw [hVs]
      have h1 := (hWa v A).size
      have h2 := hkf.1
      rw [World.putObj_size] at h2
      refine ⟨by rw [World.putObj_size]; omega, fun b hb1 hb2 => ?_⟩
      rw [World.putObj_heap_other (by omega), hkf.2 b hb1 (by rw [World.putObj_size]; omega), World.putObj_heap_other (by omega)]
      exact (hWa v A).block b hb2
    refine wpIn_mono (hbody (w.heap.size + 1) x c v A _ (.loop { R .ready none with state := .busy }) hsA hok hi hN hsel hYv (by omega) hs1 hlW rfl (hIp x c _ _ _ _ (by omega) hlW rfl hiW)) ?_
    rintro e a3 B hp
    cases e with
    | normal =>
      obtain ⟨hk3, hkf, hi3⟩ := hp
      have l3 := hk3.same _ _ l2 rfl
      have k3 := hk3.same _ _ k2 rfl
      have hr := run_endRound (P := P) none l3
      refine ⟨_, _, hr, kf B hkf _, .inl ⟨rfl, hIp x _ B _ _ _ (by omega) l3 rfl hi3, ?_, (World.putObj_heap_other (by omega)).trans k3⟩⟩
      rw [World.putObj_heap_same (Array.getElem?_eq_some_iff.1 l3).1, hR]; rfl
    | ret =>
      obtain ⟨hk3, hkf, hi3⟩ := hp
      have l3 := hk3.same _ _ l2 rfl
      have k3 := hk3.same _ _ k2 rfl
      have hr := run_endRound (P := P) (some .ret) l3
      refine ⟨_, _, hr, kf B hkf _, .inr ⟨rfl, hEp B _ _ _ (by omega) l3 rfl hi3, ?_, (World.putObj_heap_other (by omega)).trans k3⟩⟩
      rw [World.putObj_heap_same (Array.getElem?_eq_some_iff.1 l3).1, hR]; rfl
    | exit id => exact hp.elim
    | goto t => exact hp.elim
    | panic ch => exact hp.elim
    | outgrown => exact hp.elim
  · rintro x c A hok hN hsel ⟨hi, hl, hk⟩
    exact ⟨hIs x c A hok hN hsel hi, hl, hk⟩
  · exact fun x => ⟨hIb x 0 w V (h0 x) hbV, rec0, def0⟩
  · rintro e W ⟨⟨v, rfl⟩, ⟨x, hok, hi, hl, hk⟩ | ⟨hi, hl, hk⟩⟩
    · exact ⟨none, _, by have := run_endLoop (P := P) hl (by rw [hR]; simp); rw [hR] at this; exact this, hdone _ _ (Nat.le_refl _) ⟨x, hok, hIp x _ W _ _ _ (by omega) hl rfl hi⟩ ((World.putObj_heap_other (by omega)).trans hk)⟩
    · exact ⟨some .ret, _, by have := run_endLoop (P := P) hl (by rw [hR]; simp); rw [hR] at this; exact this, wpIn_ret (hret _ _ (Nat.le_refl _) (hEp W _ _ _ (by omega) hl rfl hi) ((World.putObj_heap_other (by omega)).trans hk))⟩
/-- Is no operation a defer statement? -/
def noDefer (ops : Array Oper) : Bool := ops.all fun o => match o.op with | .defer _ => false | _ => true
theorem noDefer_spec {ops : Array Oper} (h : noDefer ops = true) {i : Nat} {o : Oper} (ho : ops[i]? = some o) : ∀ c, o.op ≠ .defer c := fun c e => by
  have := Array.all_eq_true_iff_forall_mem.1 h o (Array.mem_of_getElem? ho)
  rw [e] at this
  cases this
/-- The operations of a region, carried out in a round's frame. -/
theorem wpOps_round {P : Program} {ops : Array Oper} {Q : Exit → Act → World → Prop} {l n : Nat} (hnd : noDefer ops = true) (hLO : ¬ LetsOut Q) : ∀ (is : List Nat) (a : Act) (w : World), wpOps P ops Q is a w → wpOpsIn (Fence.wide.inRound l) n P ops Q is a w
  | [], a, w, h => h
  | i :: rest, a, w, h => by
    rw [wpOps_cons] at h
    rw [wpOpsIn_cons]
    unfold wpOp at h
    unfold wpOpIn
    cases ho : ops[i]? with
    | none => simp only [ho] at h ⊢; exact wpOps_round hnd hLO rest _ _ h
    | some o =>
      simp only [ho] at h ⊢
      by_cases hw : Region.wanted o (yielded ops a.tmps) = true
      · rw [if_pos hw] at h ⊢
        have h := h.resolve_right fun hx => hLO hx.2
        refine ⟨fun _ _ => trivial, ?_⟩
        rw [Oper.semAt_eq _ _ _ (noDefer_spec hnd ho)]
        unfold Oper.wp at h
        generalize (execOp a.eval o).run P w = r at *
        cases r with
        | ok x w' =>
          cases x <;> simp only [Oper.upon, Oper.uponIn] at h ⊢
          case value => exact wpOps_round hnd hLO rest _ _ h
          case skip => exact wpOps_round hnd hLO rest _ _ h
          case defer => exact wpOps_round hnd hLO rest _ _ h
          case enter f args =>
            refine ⟨fun h => by simp [Fence.wide] at h, CallsIn.inRound l (callsIn_wide.2 (Calls.mono h fun e w'' he => ?_))⟩
            cases e with
            | returned u => exact wpOps_round hnd hLO rest _ _ he
            | panicked c => exact he
            | outgrown => exact he
          case row row args => exact ⟨fun h => by simp [Fence.wide] at h, fun c cs _ => let ⟨v, w', r, s⟩ := (Rows.mono h fun u w'' he => wpOps_round hnd hLO rest _ _ he) c cs; ⟨v, w', r, stepsIn_wide.2 s⟩⟩
        | halt x w' =>
          cases x <;> simp only [Oper.upon, Oper.uponIn] at h ⊢
          case panic => exact h
      · rw [if_neg hw] at h ⊢
        exact ⟨fun _ _ => trivial, wpOps_round hnd hLO rest _ _ h⟩
/-- A region that draws its order, in a round's frame. -/
theorem wpIn_region_round {P : Program} {id l n : Nat} {ops : Array Oper} {Q : Exit → Act → World → Prop} {S : World → Prop} {a : Act} {w : World} (hm : P.follows .mixedOrders = true) (hnd : noDefer ops = true) (hLO : ¬ LetsOut Q) (hS : S w.drew)
    (h : S w.drew → wpAnyH P .any ops Q S ops.size (Array.replicate ops.size false) a w.drew) : (Code.region id ops true).wpIn (Fence.wide.inRound l) n P Q a w :=
  wpIn_region_draw fun t => by
    simp only [Region.schedule, hm, Bool.true_or, if_true]
    exact wpOps_round hnd hLO _ _ _ (wpAny_sound ops.size t _ a _ (wpAny_of_held _ _ _ _ (h hS)))
end Go.Proofs.Ytfilofnkiocbeaa
