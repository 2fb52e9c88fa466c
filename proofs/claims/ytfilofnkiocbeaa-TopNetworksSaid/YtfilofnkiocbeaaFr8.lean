import Derived.Test.YtfilofnkiocbeaaIb
import Derived.Deep.RegionHeld3
namespace Free
open Go Go.RowKit
/-- One of several operations of a drawn region that may come up in any order and that make memory alone. -/
structure FreeOp where
  i : Nat
  dst : Tmp
  dep : Nat → Bool
/-- The block that a value points into. -/
def vblk : Value → Option Nat
  | .slice (some a) _ _ => some a.block
  | .pointer (some a) => some a.block
  | _ => none
def updV {α : Type} (f : Nat → α) (k : Nat) (x : α) : Nat → α := fun j => if j = k then x else f j
def listedOf (U : Nat → FreeOp) (done : Nat → Bool) (L0 : Array Bool) : Nat → Array Bool
  | 0 => L0
  | m + 1 => if done m = true then (listedOf U done L0 m).setIfInBounds (U m).i true else listedOf U done L0 m
def actOf (U : Nat → FreeOp) (done : Nat → Bool) (f : Nat → Value) (a0 : Act) : Nat → Act
  | 0 => a0
  | m + 1 => if done m = true then (actOf U done f a0 m).put (some (U m).dst) (f m) else actOf U done f a0 m
def cnt (done : Nat → Bool) : Nat → Nat
  | 0 => 0
  | m + 1 => cnt done m + if done m = true then 0 else 1
def masks : Nat → List (List Bool)
  | 0 => [[]]
  | m + 1 => (masks m).flatMap fun l => [l ++ [false], l ++ [true]]
def consB (U : Nat → FreeOp) (d : Nat → Bool) (m : Nat) : Bool := (List.range m).all fun k => !d k || (List.range m).all fun j => !(U k).dep j || d j
theorem consB_of {U : Nat → FreeOp} {d : Nat → Bool} {m : Nat} (h : ∀ k, k < m → d k = true → ∀ j, j < m → (U k).dep j = true → d j = true) : consB U d m = true := by
  refine List.all_eq_true.2 fun k hk => ?_
  have hk := List.mem_range.1 hk
  cases hd : d k
  · rfl
  · refine List.all_eq_true.2 fun j hj => ?_
    have hj := List.mem_range.1 hj
    cases hdj : (U k).dep j
    · rfl
    · rw [h k hk hd j hj hdj]; rfl
def checkFree (md : Region.Mode) (ops : Array Oper) (U : Nat → FreeOp) (L0 : Array Bool) (m : Nat) : Bool :=
  (masks m).all fun bs => ((List.range m).all fun k => bs.getD k false) || !consB U (fun k => bs.getD k false) m ||
    ((Region.ready md ops (listedOf U (fun k => bs.getD k false) L0 m)) != [] && (Region.ready md ops (listedOf U (fun k => bs.getD k false) L0 m)).all fun i => (List.range m).any fun k => !(bs.getD k false) && (U k).i == i && (List.range m).all fun j => !(U k).dep j || bs.getD j false)
/-- Do the operations wait for no value of one another's, each with a temporary of its own? -/
def checkOps (ops : Array Oper) (U : Nat → FreeOp) (N m : Nat) : Bool :=
  (List.range m).all fun k => match ops[(U k).i]? with
    | none => false
    | some o => o.guard.isNone && (o.dst == some (U k).dst) && decide ((U k).dst < N) && (match o.op with | .select .. => false | _ => true) && (List.range m).all fun j => ((U k).dep j || !(o.looksAt ops).contains (U j).dst) && (j == k || (U j).dst != (U k).dst)
theorem checkOps_at {ops : Array Oper} {U : Nat → FreeOp} {N m : Nat} (h : checkOps ops U N m = true) {k : Nat} (hk : k < m) : ∃ o, ops[(U k).i]? = some o ∧ o.guard = none ∧ o.dst = some (U k).dst ∧ (U k).dst < N ∧ (∀ cs b, o.op ≠ .select cs b) ∧ ∀ j, j < m → ((U k).dep j = false → (U j).dst ∉ o.looksAt ops) ∧ (j ≠ k → (U j).dst ≠ (U k).dst) := by
  have h1 := List.all_eq_true.1 h k (List.mem_range.2 hk)
  cases e : ops[(U k).i]? with
  | none => rw [e] at h1; cases h1
  | some o =>
    rw [e] at h1
    simp only [Bool.and_eq_true] at h1
    obtain ⟨⟨⟨⟨a, b⟩, c⟩, d⟩, f⟩ := h1
    refine ⟨o, rfl, by simpa using a, by simpa using b, by simpa using c, (fun cs b' hs => by simp [hs] at d), fun j hj => ?_⟩
    have g := List.all_eq_true.1 f j (List.mem_range.2 hj)
    simp only [Bool.and_eq_true, Bool.or_eq_true] at g
    exact ⟨fun hdj => by
      rcases g.1 with g1 | g1
      · rw [hdj] at g1; cases g1
      · simpa using g1, fun hne => by
      rcases g.2 with g2 | g2
      · exact absurd (by simpa using g2) hne
      · simpa using g2⟩
theorem mem_masks (done : Nat → Bool) : ∀ m, (List.range m).map done ∈ masks m
  | 0 => by simp [masks]
  | m + 1 => by
    simp only [masks, List.mem_flatMap]
    refine ⟨_, mem_masks done m, ?_⟩
    rw [List.range_succ, List.map_append]
    cases h : done m <;> simp [h]
theorem getD_masks (done : Nat → Bool) {m k : Nat} (h : k < m) : ((List.range m).map done).getD k false = done k := by
  simp [List.getD, h]
theorem listedOf_congr {U : Nat → FreeOp} {d d' : Nat → Bool} {L0 : Array Bool} : ∀ {m : Nat}, (∀ k, k < m → d k = d' k) → listedOf U d L0 m = listedOf U d' L0 m
  | 0, _ => rfl
  | m + 1, h => by simp only [listedOf]; rw [listedOf_congr (m := m) fun k hk => h k (by omega), h m (by omega)]
theorem actOf_congr {U : Nat → FreeOp} {d d' : Nat → Bool} {f f' : Nat → Value} {a0 : Act} : ∀ {m : Nat}, (∀ k, k < m → d k = d' k ∧ (d k = true → f k = f' k)) → actOf U d f a0 m = actOf U d' f' a0 m
  | 0, _ => rfl
  | m + 1, h => by
    simp only [actOf]
    rw [actOf_congr (m := m) fun k hk => h k (by omega)]
    obtain ⟨h1, h2⟩ := h m (by omega)
    rw [← h1]
    by_cases e : d m = true
    · rw [if_pos e, if_pos e, h2 e]
    · rw [if_neg e, if_neg e]
theorem updV_at {α : Type} (f : Nat → α) (k : Nat) (x : α) : updV f k x k = x := if_pos rfl
theorem updV_ne {α : Type} {f : Nat → α} {k j : Nat} {x : α} (h : j ≠ k) : updV f k x j = f j := if_neg h
theorem listed_upd {U : Nat → FreeOp} {d : Nat → Bool} {L0 : Array Bool} (hd : ∀ j k, j ≠ k → (U j).i ≠ (U k).i ∨ True) : ∀ {m k : Nat}, k < m → listedOf U (updV d k true) L0 m = (listedOf U d L0 m).setIfInBounds (U k).i true
  | 0, _, h => by omega
  | m + 1, k, h => by
    simp only [listedOf]
    by_cases e : k = m
    · subst e
      rw [updV_at, if_pos rfl, listedOf_congr (d := updV d k true) (d' := d) fun j hj => updV_ne (by omega)]
      by_cases h1 : d k = true
      · rw [if_pos h1]; simp
      · rw [if_neg h1]
    · rw [updV_ne (show m ≠ k by omega), listed_upd hd (m := m) (k := k) (by omega)]
      by_cases h1 : d m = true
      · rw [if_pos h1, if_pos h1]
        by_cases e2 : (U k).i = (U m).i
        · rw [e2]
        · rw [Array.setIfInBounds_comm _ _ e2]
      · rw [if_neg h1, if_neg h1]
theorem act_upd {U : Nat → FreeOp} {d : Nat → Bool} {f : Nat → Value} {a0 : Act} {v : Value} : ∀ {m k : Nat}, (∀ j, j < m → j ≠ k → (U j).dst ≠ (U k).dst) → k < m → d k = false →
    actOf U (updV d k true) (updV f k v) a0 m = (actOf U d f a0 m).put (some (U k).dst) v
  | 0, _, _, h, _ => by omega
  | m + 1, k, hd, h, hk => by
    simp only [actOf]
    by_cases e : k = m
    · subst e
      rw [updV_at, if_pos rfl, updV_at, actOf_congr (d := updV d k true) (d' := d) (f := updV f k v) (f' := f) fun j hj => ⟨updV_ne (by omega), fun _ => updV_ne (by omega)⟩, hk, if_neg (by decide)]
    · rw [updV_ne (show m ≠ k by omega), updV_ne (show m ≠ k by omega), act_upd (m := m) (k := k) (fun j hj => hd j (by omega)) (by omega) hk]
      by_cases h1 : d m = true
      · rw [if_pos h1, if_pos h1]
        refine (Act.put_comm _ _ _ fun t ht e2 => ?_)
        cases ht
        have := hd m (by omega) (by omega)
        exact this (Option.some.inj e2)
      · rw [if_neg h1, if_neg h1]
theorem cnt_congr {d d' : Nat → Bool} : ∀ {m : Nat}, (∀ k, k < m → d k = d' k) → cnt d m = cnt d' m
  | 0, _ => rfl
  | m + 1, h => by simp only [cnt]; rw [cnt_congr (m := m) fun k hk => h k (by omega), h m (by omega)]
theorem cnt_upd {d : Nat → Bool} : ∀ {m k : Nat}, k < m → d k = false → cnt (updV d k true) m + 1 = cnt d m
  | 0, _, h, _ => by omega
  | m + 1, k, h, hk => by
    simp only [cnt]
    by_cases e : k = m
    · subst e
      rw [updV_at, if_pos rfl, cnt_congr (d := updV d k true) (d' := d) fun j hj => updV_ne (by omega), hk, if_neg (by decide)]
    · rw [updV_ne (show m ≠ k by omega), ← cnt_upd (m := m) (k := k) (by omega) hk]
      omega
theorem cnt_zero {d : Nat → Bool} : ∀ {m : Nat}, cnt d m = 0 → ∀ k, k < m → d k = true
  | 0, _, _, h => by omega
  | m + 1, h0, k, h => by
    simp only [cnt] at h0
    by_cases e : k = m
    · subst e
      by_cases h1 : d k = true
      · exact h1
      · rw [if_neg h1] at h0; omega
    · exact cnt_zero (m := m) (by omega) k (by omega)
theorem cnt_none : ∀ m, cnt (fun _ => false) m = m
  | 0 => rfl
  | m + 1 => by simp only [cnt, cnt_none m]; rfl
theorem listed_none {U : Nat → FreeOp} {L0 : Array Bool} : ∀ m, listedOf U (fun _ => false) L0 m = L0
  | 0 => rfl
  | m + 1 => by simp only [listedOf, listed_none m]; rfl
theorem act_none {U : Nat → FreeOp} {f : Nat → Value} {a0 : Act} : ∀ m, actOf U (fun _ => false) f a0 m = a0
  | 0 => rfl
  | m + 1 => by simp only [actOf, act_none m]; rfl
theorem act_size {U : Nat → FreeOp} {d : Nat → Bool} {f : Nat → Value} {a0 : Act} : ∀ m, (actOf U d f a0 m).tmps.size = a0.tmps.size
  | 0 => rfl
  | m + 1 => by
    simp only [actOf]
    split
    · simp only [Act.put, Array.size_setIfInBounds]; exact act_size m
    · exact act_size m
theorem eval_put_same {a b : Act} {t : Tmp} {v : Value} {x : Operand} (hs : a.tmps.size = b.tmps.size) (h : a.eval x = b.eval x) : (a.put (some t) v).eval x = (b.put (some t) v).eval x := by
  by_cases e : x = .tmp t
  · subst e
    simp [Act.eval, Act.put, Array.getElem?_setIfInBounds, hs]
  · rw [Act.eval_put fun d hd hx => e (by cases hd; exact hx), Act.eval_put fun d hd hx => e (by cases hd; exact hx), h]
theorem eval_act {U : Nat → FreeOp} {d e : Nat → Bool} {f : Nat → Value} {a0 : Act} {x : Operand} : ∀ {m : Nat}, (∀ j, j < m → e j = true → d j = true) → (∀ j, j < m → e j = false → x ≠ .tmp (U j).dst) → (actOf U d f a0 m).eval x = (actOf U e f a0 m).eval x
  | 0, _, _ => rfl
  | m + 1, h1, h2 => by
    have ih := eval_act (U := U) (d := d) (e := e) (f := f) (a0 := a0) (x := x) (m := m) (fun j hj => h1 j (by omega)) (fun j hj => h2 j (by omega))
    simp only [actOf]
    by_cases he : e m = true
    · rw [if_pos he, if_pos (h1 m (by omega) he)]
      exact eval_put_same (by rw [act_size, act_size]) ih
    · rw [if_neg he]
      have hx := h2 m (by omega) (by simpa using he)
      split
      · rw [Act.eval_put fun t ht hxt => hx (by cases ht; exact hxt)]; exact ih
      · exact ih
theorem exec_act {ops : Array Oper} {U : Nat → FreeOp} {d e : Nat → Bool} {f : Nat → Value} {a0 : Act} {o : Oper} {m : Nat} (hs : ∀ cs b, o.op ≠ .select cs b) (h1 : ∀ j, j < m → e j = true → d j = true) (h2 : ∀ j, j < m → e j = false → (U j).dst ∉ o.looksAt ops) : execOp (actOf U d f a0 m).eval o = execOp (actOf U e f a0 m).eval o :=
  execOp_congr o hs fun x hx => eval_act h1 fun j hj he hxe => h2 j hj he (by
    subst hxe
    exact List.mem_append_left _ (List.mem_filterMap.2 ⟨.tmp (U j).dst, by simpa using hx, rfl⟩))
/-- An operation carried out at one state is carried out at another at which it finds the same operands. -/
theorem wp_same {P : Program} {o : Oper} {d : Tmp} {a a0 : Act} {w : World} {post : Value → World → Prop} {Q : Exit → Act → World → Prop} {K : Act → World → Prop} (he : execOp a.eval o = execOp a0.eval o) (hd : o.dst = some d) (hlt : d < a0.tmps.size)
    (h : Oper.wp P o a0 w (fun a' w' => ∃ v, a' = a0.put (some d) v ∧ post v w') (fun _ _ _ => False)) (hK : ∀ v w', post v w' → K (a.put (some d) v) w') : Oper.wp P o a w K Q := by
  have inj : ∀ {u v : Value}, a0.put (some d) u = a0.put (some d) v → u = v := fun {u v} e => by
    have e1 := congrArg (fun a : Act => a.tmps[d]?) e
    simpa [Act.put, hlt] using e1
  unfold Oper.wp at *
  rw [he]
  generalize (execOp a0.eval o).run P w = r at *
  cases r with
  | ok n w' =>
    cases n <;> simp only [Oper.upon] at h ⊢
    case value u =>
      obtain ⟨v, e, hp⟩ := h
      rw [hd] at e ⊢
      rw [inj e]; exact hK _ _ hp
    case skip =>
      obtain ⟨v, e, hp⟩ := h
      rw [hd] at e ⊢
      rw [inj e]; exact hK _ _ hp
    case defer x =>
      obtain ⟨v, e, hp⟩ := h
      have e1 := congrArg (fun a : Act => a.defers.length) e
      rw [hd] at e1
      simp [Act.put] at e1
    case enter f args =>
      refine Calls.mono h fun e w'' he => ?_
      cases e with
      | returned u =>
        obtain ⟨v, e, hp⟩ := he
        rw [hd] at e ⊢
        rw [inj e]; exact hK _ _ hp
      | panicked c => exact he.elim
      | outgrown => obtain ⟨_, _, hf⟩ := he; exact hf.elim
    case row row args =>
      refine Rows.mono h fun u w'' he => ?_
      obtain ⟨v, e, hp⟩ := he
      rw [hd] at e ⊢
      rw [inj e]; exact hK _ _ hp
  | halt x w' =>
    cases x <;> exact False.elim h
/-- OPERATIONS THAT COME UP IN MANY ORDERS, each making memory alone: one step each, one way behind them. -/
theorem wpAnyH_free {P : Program} {md : Region.Mode} {ops : Array Oper} {Q : Exit → Act → World → Prop} {S : World → Prop} (U : Nat → FreeOp) (m n N : Nat) (R : Nat → (Nat → Value) → Value → World → Prop) {L0 : Array Bool} {a0 : Act} {w0 : World}
    (hk : checkFree md ops U L0 m = true) (hops : checkOps ops U N m = true) (hN : a0.tmps.size = N)
    (hR : ∀ k, k < m → ∀ f v w w', R k f v w → Below w.heap.size w w' → R k f v w')
    (hRf : ∀ k, k < m → ∀ f f' v w, (∀ j, j < m → (U k).dep j = true → f j = f' j) → R k f v w → R k f' v w)
    (hstep : ∀ k, k < m → ∀ o, ops[(U k).i]? = some o → ∀ f w, S w → Below w0.heap.size w0 w → (∀ j, j < m → (U k).dep j = true → R j f (f j) w) → Oper.wp P o (actOf U (U k).dep f a0 m) w (fun a' w' => ∃ v, a' = (actOf U (U k).dep f a0 m).put (some (U k).dst) v ∧ (Below w.heap.size w w' ∧ S w' ∧ R k f v w' ∧ ∀ b, vblk v = some b → w.heap.size ≤ b ∧ b < w'.heap.size)) (fun _ _ _ => False))
    (hfin : ∀ (f : Nat → Value) (W : World), S W → Below w0.heap.size w0 W → (∀ k, k < m → R k f (f k) W ∧ ∀ b, vblk (f k) = some b → w0.heap.size ≤ b ∧ b < W.heap.size) → (∀ j k, j < m → k < m → j ≠ k → ∀ b, vblk (f j) = some b → vblk (f k) ≠ some b) →
      wpAnyH P md ops Q S n (listedOf U (fun _ => true) L0 m) (actOf U (fun _ => true) f a0 m) W)
    (hS : S w0) : wpAnyH P md ops Q S (n + m) L0 a0 w0 := by
  have main : ∀ (c : Nat) (done : Nat → Bool) (f : Nat → Value) (W : World), cnt done m = c → S W → Below w0.heap.size w0 W → (∀ k, k < m → done k = true → (∀ j, j < m → (U k).dep j = true → done j = true) ∧ R k f (f k) W ∧ ∀ b, vblk (f k) = some b → w0.heap.size ≤ b ∧ b < W.heap.size) →
      (∀ j k, j < m → k < m → j ≠ k → done j = true → done k = true → ∀ b, vblk (f j) = some b → vblk (f k) ≠ some b) → wpAnyH P md ops Q S (n + c) (listedOf U done L0 m) (actOf U done f a0 m) W := by
    intro c
    induction c with
    | zero =>
      intro done f W hc hSW hB hr hdis
      have hall := cnt_zero hc
      rw [listedOf_congr (d' := fun _ => true) hall, actOf_congr (d' := fun _ => true) (f' := f) fun k hk => ⟨hall k hk, fun _ => rfl⟩]
      exact hfin f W hSW hB (fun k hk => (hr k hk (hall k hk)).2) fun j k hj hk' hne => hdis j k hj hk' hne (hall j hj) (hall k hk')
    | succ c ih =>
      intro done f W hc hSW hB hr hdis
      have hck := List.all_eq_true.1 hk _ (mem_masks done m)
      have e1 : listedOf U (fun k => ((List.range m).map done).getD k false) L0 m = listedOf U done L0 m := listedOf_congr fun k hk => getD_masks done hk
      rw [e1, Bool.or_eq_true, Bool.or_eq_true, Bool.and_eq_true] at hck
      have hcons : ¬ (!consB U (fun k => ((List.range m).map done).getD k false) m) = true := fun h => by
        have h2 : consB U (fun k => ((List.range m).map done).getD k false) m = true := consB_of fun k hk hd j hj hdj => (getD_masks done hj).trans ((hr k hk ((getD_masks done hk).symm.trans hd)).1 j hj hdj)
        rw [h2] at h
        cases h
      have hnot : ¬ ((List.range m).all fun k => ((List.range m).map done).getD k false) = true := fun h => by
        rw [List.all_eq_true] at h
        have h0 : cnt done m = 0 := by
          have : ∀ m', m' ≤ m → cnt done m' = 0 := by
            intro m'
            induction m' with
            | zero => exact fun _ => rfl
            | succ m' ih' =>
              intro hle
              have h2 := h m' (List.mem_range.2 (by omega))
              rw [getD_masks done (show m' < m by omega)] at h2
              simp only [cnt]
              rw [ih' (by omega), if_pos h2]
          exact this m (Nat.le_refl _)
        omega
      obtain ⟨hne, hin⟩ := hck.resolve_left fun h => h.elim hnot hcons
      show wpAnyH P md ops Q S (n + c + 1) _ _ _
      refine ⟨fun h => by rw [h] at hne; simp at hne, fun i hi => ?_⟩
      have h3 := List.all_eq_true.1 hin i hi
      obtain ⟨k, hkm, hki⟩ := List.any_eq_true.1 h3
      have hkm := List.mem_range.1 hkm
      rw [getD_masks done hkm, Bool.and_eq_true, Bool.and_eq_true] at hki
      have hdk : done k = false := by simpa using hki.1.1
      have hi2 : (U k).i = i := by simpa using hki.1.2
      have hdep : ∀ j, j < m → (U k).dep j = true → done j = true := fun j hj hd => by
        have := List.all_eq_true.1 hki.2 j (List.mem_range.2 hj)
        rw [getD_masks done hj, hd] at this
        simpa using this
      subst hi2
      obtain ⟨o, o1, o2, o3, o4, o5, o6⟩ := checkOps_at hops hkm
      have o7 : ∀ y, Region.wanted o y = true := fun y => by unfold Region.wanted; rw [o2]
      unfold wpOp
      simp only [o1, o7, if_true]
      refine .inl (wp_same (exec_act (ops := ops) (d := done) (e := (U k).dep) (f := f) (a0 := a0) (m := m) o5 hdep fun j hj he => (o6 j hj).1 he) o3 (by rw [act_size, hN]; exact o4) (hstep k hkm o o1 f W hSW hB fun j hj hd => (hr j hj (hdep j hj hd)).2.1) ?_)
      rintro v w' ⟨hb, hS', hv, hob⟩
      refine ⟨hS', ?_⟩
      have same : ∀ j, j < m → done j = true → updV f k v j = f j := fun j hj hdj => updV_ne fun e => by rw [e, hdk] at hdj; cases hdj
      have := ih (updV done k true) (updV f k v) w' (by have := cnt_upd hkm hdk; omega) hS' (hB.trans (hb.mono hB.size)) (fun j hj hdj => by
        by_cases e : j = k
        · subst e
          rw [updV_at]
          refine ⟨fun l hl hd => ?_, hRf j hkm f _ v w' (fun l hl hd => (same l hl (hdep l hl hd)).symm) hv, fun b h => ⟨Nat.le_trans hB.size (hob b h).1, (hob b h).2⟩⟩
          rw [updV_ne fun e => by have := hdep l hl hd; rw [e, hdk] at this; cases this]
          exact hdep l hl hd
        · rw [updV_ne e] at hdj ⊢
          obtain ⟨d1, a, b⟩ := hr j hj hdj
          refine ⟨fun l hl hd => ?_, hRf j hj f _ _ w' (fun l hl hd => (same l hl (d1 l hl hd)).symm) (hR j hj _ _ _ _ a hb), fun b' h => ⟨(b b' h).1, Nat.lt_of_lt_of_le (b b' h).2 hb.size⟩⟩
          by_cases e2 : l = k
          · rw [e2, updV_at]
          · rw [updV_ne e2]; exact d1 l hl hd) (fun j l hj hl hne' hdj hdl b h1 h2 => by
        by_cases e : j = k
        · subst e
          rw [updV_at] at h1
          rw [updV_ne (Ne.symm hne')] at hdl h2
          have x := ((hr l hl hdl).2.2 b h2).2
          have y := (hob b h1).1
          omega
        · rw [updV_ne e] at hdj h1
          by_cases e' : l = k
          · subst e'
            rw [updV_at] at h2
            have x := ((hr j hj hdj).2.2 b h1).2
            have y := (hob b h2).1
            omega
          · rw [updV_ne e'] at hdl h2
            exact hdis j l hj hl hne' hdj hdl b h1 h2)
      rwa [listed_upd (fun _ _ _ => Or.inr trivial) hkm, act_upd (fun j hj hne => (o6 j hj).2 hne) hkm hdk] at this
  have := main m (fun _ => false) (fun _ => default) w0 (cnt_none m) hS (Below.refl _ _) (fun k _ h => by cases h) (fun j k _ _ _ h => by cases h)
  rwa [listed_none, act_none] at this
end Free
