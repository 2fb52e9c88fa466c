import Derived.Test.YtldepffpafccpaaNr6
namespace Heat
def sm (p : Nat → Int) : Int := p 0 + p 1 + p 2 + p 3 + p 4
end Heat
namespace Go.Proofs.Ytldepffpafccpaa
open Go.RowKit Heat
/-- The lists of numbers from 0 to top, one behind the other. -/
def seqP (n : Nat) (top : Int) : Nat → Option (Nat → Int)
  | 0 => some (fun _ => 0)
  | t + 1 => match seqP n top t with
    | some p => nxO top n p
    | none => none
def updB (near : (Nat → Int) → Bool) (b : Option (Nat → Int)) (p : Nat → Int) : Option (Nat → Int) := if (b.isSome && decide (sm (opL b) ≤ sm p)) = true then b else if near p = true then some p else b
/-- The best of the first t lists. -/
def chT (near : (Nat → Int) → Bool) (n : Nat) (top : Int) : Nat → Option (Nat → Int)
  | 0 => none
  | t + 1 => match seqP n top t with
    | some p => updB near (chT near n top t) p
    | none => chT near n top t
def rk (top : Int) (p : Nat → Int) : Nat → Int
  | 0 => 0
  | k + 1 => rk top p k * (top + 1) + p k
theorem rk_upd {top : Int} {p : Nat → Int} {j : Nat} {z : Int} : ∀ {k : Nat}, k ≤ j → rk top (updI p j z) k = rk top p k
  | 0, _ => rfl
  | k + 1, h => by
    unfold rk
    rw [rk_upd (k := k) (by omega), updI_ne _ _ (by omega)]
theorem nxO_some {top : Int} (h0 : 0 ≤ top) : ∀ (m : Nat) (p q : Nat → Int), nxO top m p = some q → (∀ i, 0 ≤ p i ∧ p i ≤ top) → rk top q m = rk top p m + 1 ∧ (∀ i, m ≤ i → q i = p i) ∧ ∀ i, 0 ≤ q i ∧ q i ≤ top
  | 0, _, _, h, _ => by simp [nxO] at h
  | k + 1, p, q, h, hp => by
    unfold nxO at h
    by_cases hk : p k < top
    · rw [if_pos hk] at h
      obtain rfl := Option.some.inj h
      refine ⟨?_, ?_, ?_⟩
      · unfold rk
        rw [rk_upd (Nat.le_refl _), updI_at]; omega
      · intro i hi; exact updI_ne _ _ (by omega)
      · intro i
        unfold updI
        have := hp i
        split
        · rename_i e; subst e; omega
        · exact this
    · rw [if_neg hk] at h
      have hp' : ∀ i, 0 ≤ updI p k 0 i ∧ updI p k 0 i ≤ top := fun i => by
        unfold updI
        split
        · omega
        · exact hp i
      obtain ⟨h1, h2, h3⟩ := nxO_some h0 k _ _ h hp'
      refine ⟨?_, ?_, h3⟩
      · unfold rk
        rw [h1, rk_upd (Nat.le_refl _), h2 k (Nat.le_refl _), updI_at]
        have := hp k
        have e : p k = top := by omega
        rw [e, Int.add_mul]; omega
      · intro i hi
        rw [h2 i (by omega)]
        exact updI_ne _ _ (by omega)
theorem rk_bd {top : Int} {p : Nat → Int} (h0 : 0 ≤ top) (hp : ∀ i, 0 ≤ p i ∧ p i ≤ top) : ∀ k, rk top p k + 1 ≤ (top + 1) ^ k
  | 0 => by unfold rk; simp
  | k + 1 => by
    have h1 := rk_bd h0 hp k
    have h2 := Int.mul_le_mul_of_nonneg_right h1 (show 0 ≤ top + 1 by omega)
    have h3 := hp k
    unfold rk
    rw [Int.pow_succ]
    rw [Int.add_mul] at h2
    omega
theorem pow_bd {top : Int} {n : Nat} (h0 : 0 ≤ top) (h1 : top ≤ 20) (hn : n ≤ 3) : (top + 1) ^ n ≤ 9261 := by
  have h : ∀ T : Fin 21, ∀ n : Fin 4, ((T.val : Int) + 1) ^ n.val ≤ 9261 := by decide +kernel
  have := h ⟨top.toNat, by omega⟩ ⟨n, by omega⟩
  simp only at this
  rwa [show ((top.toNat : Nat) : Int) = top by omega] at this
theorem seq_inv {n : Nat} {top : Int} (h0 : 0 ≤ top) : ∀ (t : Nat) (p : Nat → Int), seqP n top t = some p → (∀ i, 0 ≤ p i ∧ p i ≤ top) ∧ (∀ i, n ≤ i → p i = 0) ∧ rk top p n = t
  | 0, p, h => by
    obtain rfl := Option.some.inj h
    refine ⟨fun i => by show (0 : Int) ≤ 0 ∧ (0 : Int) ≤ top; omega, fun i _ => rfl, ?_⟩
    have : ∀ k, rk top (fun _ => 0) k = 0 := fun k => by
      induction k with
      | zero => rfl
      | succ k ih => unfold rk; rw [ih]; simp
    rw [this]; rfl
  | t + 1, q, h => by
    unfold seqP at h
    cases hs : seqP n top t with
    | none => rw [hs] at h; simp at h
    | some p =>
      rw [hs] at h
      obtain ⟨a, b, c⟩ := seq_inv h0 t p hs
      obtain ⟨x, y, z⟩ := nxO_some h0 n p q h a
      exact ⟨z, fun i hi => by rw [y i hi, b i hi], by rw [x, c]; omega⟩
theorem seq_lt {n : Nat} {top : Int} (h0 : 0 ≤ top) (h1 : top ≤ 20) (hn : n ≤ 3) {t : Nat} {p : Nat → Int} (h : seqP n top t = some p) : t < 9300 := by
  obtain ⟨a, _, c⟩ := seq_inv h0 t p h
  have h2 := rk_bd h0 a n
  have h3 := pow_bd h0 h1 hn
  omega
theorem seq_end {near : (Nat → Int) → Bool} {n : Nat} {top : Int} {T : Nat} (h : seqP n top T = none) : ∀ d, seqP n top (T + d) = none ∧ chT near n top (T + d) = chT near n top T
  | 0 => ⟨h, rfl⟩
  | d + 1 => by
    obtain ⟨a, b⟩ := seq_end (near := near) h d
    constructor
    · show seqP n top ((T + d) + 1) = none
      unfold seqP; rw [a]
    · have e : chT near n top ((T + d) + 1) = chT near n top (T + d) := by
        show (match seqP n top (T + d) with
          | some p => updB near (chT near n top (T + d)) p
          | none => chT near n top (T + d)) = _
        rw [a]
      exact e.trans b
theorem Intw.five {w : World} {g : Nat} {f : Nat → Int} (h : Intw w g 5 f) (q : Nat → Int) : Intw (((((w.setCell ⟨g, 0, none⟩ (.int .i64 (q 0))).setCell ⟨g, 1, none⟩ (.int .i64 (q 1))).setCell ⟨g, 2, none⟩ (.int .i64 (q 2))).setCell ⟨g, 3, none⟩ (.int .i64 (q 3))).setCell ⟨g, 4, none⟩ (.int .i64 (q 4))) g 5 q :=
  (((((h.store (j := 0) (by omega) (q 0)).store (j := 1) (by omega) (q 1)).store (j := 2) (by omega) (q 2)).store (j := 3) (by omega) (q 3)).store (j := 4) (by omega) (q 4)).congr fun j hj => by
    rcases (show j = 0 ∨ j = 1 ∨ j = 2 ∨ j = 3 ∨ j = 4 by omega) with rfl | rfl | rfl | rfl | rfl <;> simp [updI]
theorem Intw.fiveO {w : World} {g n m : Nat} {f q : Nat → Int} (h : Intw w g n f) (hne : ¬ m = g) : Intw (((((w.setCell ⟨m, 0, none⟩ (.int .i64 (q 0))).setCell ⟨m, 1, none⟩ (.int .i64 (q 1))).setCell ⟨m, 2, none⟩ (.int .i64 (q 2))).setCell ⟨m, 3, none⟩ (.int .i64 (q 3))).setCell ⟨m, 4, none⟩ (.int .i64 (q 4))) g n f :=
  ((((h.other hne).other hne).other hne).other hne).other hne
theorem Bkw.fiveO {w : World} {g m : Nat} {n : Int} {L R q : Nat → Int} (h : Bkw w g n L R) (hne : ¬ m = g) : Bkw (((((w.setCell ⟨m, 0, none⟩ (.int .i64 (q 0))).setCell ⟨m, 1, none⟩ (.int .i64 (q 1))).setCell ⟨m, 2, none⟩ (.int .i64 (q 2))).setCell ⟨m, 3, none⟩ (.int .i64 (q 3))).setCell ⟨m, 4, none⟩ (.int .i64 (q 4))) g n L R :=
  ((((h.other hne).other hne).other hne).other hne).other hne
theorem Below.fiveB {B m : Nat} {w0 w : World} {q : Nat → Int} (h : Below B w0 w) (hm : B ≤ m) : Below B w0 (((((w.setCell ⟨m, 0, none⟩ (.int .i64 (q 0))).setCell ⟨m, 1, none⟩ (.int .i64 (q 1))).setCell ⟨m, 2, none⟩ (.int .i64 (q 2))).setCell ⟨m, 3, none⟩ (.int .i64 (q 3))).setCell ⟨m, 4, none⟩ (.int .i64 (q 4))) :=
  ((((h.setCell (p := ⟨m, 0, none⟩) hm _).setCell (p := ⟨m, 1, none⟩) hm _).setCell (p := ⟨m, 2, none⟩) hm _).setCell (p := ⟨m, 3, none⟩) hm _).setCell (p := ⟨m, 4, none⟩) hm _
theorem sm_bd {p : Nat → Int} (h : ∀ i, 0 ≤ p i ∧ p i ≤ 20) : 0 ≤ sm p ∧ sm p ≤ 100 := by
  have h0 := h 0; have h1 := h 1; have h2 := h 2; have h3 := h 3; have h4 := h 4
  unfold sm; omega
theorem seq_step {n : Nat} {top : Int} {t : Nat} {p : Nat → Int} (h : seqP n top t = some p) : seqP n top (t + 1) = if (nxO top n p).isSome = true then some (opL (nxO top n p)) else none := by
  show (match seqP n top t with
    | some p => nxO top n p
    | none => none) = _
  rw [h]
  show nxO top n p = _
  cases nxO top n p <;> rfl
theorem ch_step {near : (Nat → Int) → Bool} {n : Nat} {top : Int} {t : Nat} {p : Nat → Int} (h : seqP n top t = some p) : chT near n top (t + 1) = updB near (chT near n top t) p := by
  show (match seqP n top t with
    | some p => updB near (chT near n top t) p
    | none => chT near n top t) = _
  rw [h]
set_option maxRecDepth 100000 in
set_option maxHeartbeats 16000000 in
theorem cheapest_any (n : Nat) (L R wt : Nat → Int) (s top : Int) (near : (Nat → Int) → Bool) (w : World) (hn : n ≤ 3) (hb : ∀ p : Nat → Int, (∀ i, 0 ≤ p i ∧ p i ≤ 20) → ∀ i, i < n → ∀ k, k < n → (L (i * 5 + k) * p k).natAbs ≤ 1000000000000) (hwt : ∀ i, i < 5 → (wt i).natAbs ≤ 1000000) (ht0 : 0 ≤ top) (ht : top ≤ 20)
    (hnear : ∀ p, near p = inTo (fun i => timL n L p n 0 i - wt i) (-s) s 5) :
    Calls Try.prog 71 #[bkV n L R, liV wt, .int .i64 s, .int .i64 top] w fun e w' => e = .returned (.tuple #[liV (opL (chT near n top 9300)), .bool (chT near n top 9300).isSome]) ∧ Below w.heap.size w w' := by
  have HBD := Lib.hid hb
  have HWT := Lib.hid hwt
  have HNE := Lib.hid hnear
  have HSQ0 : Hid (Sqw (((w.alloc (Obj.cells #[.int .i64 n, .int .i64 (L 0), .int .i64 (L 1), .int .i64 (L 2), .int .i64 (L 3), .int .i64 (L 4), .int .i64 (L 5), .int .i64 (L 6), .int .i64 (L 7), .int .i64 (L 8), .int .i64 (L 9), .int .i64 (L 10), .int .i64 (L 11), .int .i64 (L 12), .int .i64 (L 13), .int .i64 (L 14), .int .i64 (L 15), .int .i64 (L 16), .int .i64 (L 17), .int .i64 (L 18), .int .i64 (L 19), .int .i64 (L 20), .int .i64 (L 21), .int .i64 (L 22), .int .i64 (L 23), .int .i64 (L 24), .int .i64 (R 0), .int .i64 (R 1), .int .i64 (R 2), .int .i64 (R 3), .int .i64 (R 4)] 81)).alloc (Obj.cells #[.int .i64 (wt 0), .int .i64 (wt 1), .int .i64 (wt 2), .int .i64 (wt 3), .int .i64 (wt 4)] 74)).alloc (Obj.cells #[.int .i64 0, .int .i64 0, .int .i64 0, .int .i64 0, .int .i64 0] 74)) w.heap.size n L) := Lib.hid (Sqw.fresh (by refine ⟨?_, ?_, ?_, ?_, ?_, ?_, ?_, ?_, ?_, ?_, ?_, ?_, ?_, ?_, ?_, ?_, ?_, ?_, ?_, ?_, ?_, ?_, ?_, ?_, ?_, ?_⟩ <;> go_cell) (by refine ⟨?_, ?_, ?_, ?_, ?_, ?_, ?_, ?_, ?_, ?_, ?_, ?_, ?_, ?_, ?_, ?_, ?_, ?_, ?_, ?_, ?_, ?_, ?_, ?_, ?_, ?_⟩ <;> go_cell))
  have HRE0 : Hid (Rew (((w.alloc (Obj.cells #[.int .i64 n, .int .i64 (L 0), .int .i64 (L 1), .int .i64 (L 2), .int .i64 (L 3), .int .i64 (L 4), .int .i64 (L 5), .int .i64 (L 6), .int .i64 (L 7), .int .i64 (L 8), .int .i64 (L 9), .int .i64 (L 10), .int .i64 (L 11), .int .i64 (L 12), .int .i64 (L 13), .int .i64 (L 14), .int .i64 (L 15), .int .i64 (L 16), .int .i64 (L 17), .int .i64 (L 18), .int .i64 (L 19), .int .i64 (L 20), .int .i64 (L 21), .int .i64 (L 22), .int .i64 (L 23), .int .i64 (L 24), .int .i64 (R 0), .int .i64 (R 1), .int .i64 (R 2), .int .i64 (R 3), .int .i64 (R 4)] 81)).alloc (Obj.cells #[.int .i64 (wt 0), .int .i64 (wt 1), .int .i64 (wt 2), .int .i64 (wt 3), .int .i64 (wt 4)] 74)).alloc (Obj.cells #[.int .i64 0, .int .i64 0, .int .i64 0, .int .i64 0, .int .i64 0] 74)) w.heap.size R) := Lib.hid (fun j hj => by rcases (show j = 0 ∨ j = 1 ∨ j = 2 ∨ j = 3 ∨ j = 4 by omega) with rfl | rfl | rfl | rfl | rfl <;> exact ⟨by go_cell, by go_cell⟩)
  have HBK0 : Hid (Bkw (((w.alloc (Obj.cells #[.int .i64 n, .int .i64 (L 0), .int .i64 (L 1), .int .i64 (L 2), .int .i64 (L 3), .int .i64 (L 4), .int .i64 (L 5), .int .i64 (L 6), .int .i64 (L 7), .int .i64 (L 8), .int .i64 (L 9), .int .i64 (L 10), .int .i64 (L 11), .int .i64 (L 12), .int .i64 (L 13), .int .i64 (L 14), .int .i64 (L 15), .int .i64 (L 16), .int .i64 (L 17), .int .i64 (L 18), .int .i64 (L 19), .int .i64 (L 20), .int .i64 (L 21), .int .i64 (L 22), .int .i64 (L 23), .int .i64 (L 24), .int .i64 (R 0), .int .i64 (R 1), .int .i64 (R 2), .int .i64 (R 3), .int .i64 (R 4)] 81)).alloc (Obj.cells #[.int .i64 (wt 0), .int .i64 (wt 1), .int .i64 (wt 2), .int .i64 (wt 3), .int .i64 (wt 4)] 74)).alloc (Obj.cells #[.int .i64 0, .int .i64 0, .int .i64 0, .int .i64 0, .int .i64 0] 74)) w.heap.size n L R) := Lib.hid ⟨HSQ0.out, HRE0.out⟩
  have HLI0 : Hid (Intw (((w.alloc (Obj.cells #[.int .i64 n, .int .i64 (L 0), .int .i64 (L 1), .int .i64 (L 2), .int .i64 (L 3), .int .i64 (L 4), .int .i64 (L 5), .int .i64 (L 6), .int .i64 (L 7), .int .i64 (L 8), .int .i64 (L 9), .int .i64 (L 10), .int .i64 (L 11), .int .i64 (L 12), .int .i64 (L 13), .int .i64 (L 14), .int .i64 (L 15), .int .i64 (L 16), .int .i64 (L 17), .int .i64 (L 18), .int .i64 (L 19), .int .i64 (L 20), .int .i64 (L 21), .int .i64 (L 22), .int .i64 (L 23), .int .i64 (L 24), .int .i64 (R 0), .int .i64 (R 1), .int .i64 (R 2), .int .i64 (R 3), .int .i64 (R 4)] 81)).alloc (Obj.cells #[.int .i64 (wt 0), .int .i64 (wt 1), .int .i64 (wt 2), .int .i64 (wt 3), .int .i64 (wt 4)] 74)).alloc (Obj.cells #[.int .i64 0, .int .i64 0, .int .i64 0, .int .i64 0, .int .i64 0] 74)) (w.heap.size + 1) 5 wt) := Lib.hid (fun j hj => by rcases (show j = 0 ∨ j = 1 ∨ j = 2 ∨ j = 3 ∨ j = 4 by omega) with rfl | rfl | rfl | rfl | rfl <;> exact ⟨by go_cell, by go_cell⟩)
  have HBE0 : Hid (Intw (((w.alloc (Obj.cells #[.int .i64 n, .int .i64 (L 0), .int .i64 (L 1), .int .i64 (L 2), .int .i64 (L 3), .int .i64 (L 4), .int .i64 (L 5), .int .i64 (L 6), .int .i64 (L 7), .int .i64 (L 8), .int .i64 (L 9), .int .i64 (L 10), .int .i64 (L 11), .int .i64 (L 12), .int .i64 (L 13), .int .i64 (L 14), .int .i64 (L 15), .int .i64 (L 16), .int .i64 (L 17), .int .i64 (L 18), .int .i64 (L 19), .int .i64 (L 20), .int .i64 (L 21), .int .i64 (L 22), .int .i64 (L 23), .int .i64 (L 24), .int .i64 (R 0), .int .i64 (R 1), .int .i64 (R 2), .int .i64 (R 3), .int .i64 (R 4)] 81)).alloc (Obj.cells #[.int .i64 (wt 0), .int .i64 (wt 1), .int .i64 (wt 2), .int .i64 (wt 3), .int .i64 (wt 4)] 74)).alloc (Obj.cells #[.int .i64 0, .int .i64 0, .int .i64 0, .int .i64 0, .int .i64 0] 74)) (w.heap.size + 1 + 1) 5 (fun _ => 0)) := Lib.hid (fun j hj => by rcases (show j = 0 ∨ j = 1 ∨ j = 2 ∨ j = 3 ∨ j = 4 by omega) with rfl | rfl | rfl | rfl | rfl <;> exact ⟨by go_cell, by go_cell⟩)
  have hb0 : Below w.heap.size w (((w.alloc (Obj.cells #[.int .i64 n, .int .i64 (L 0), .int .i64 (L 1), .int .i64 (L 2), .int .i64 (L 3), .int .i64 (L 4), .int .i64 (L 5), .int .i64 (L 6), .int .i64 (L 7), .int .i64 (L 8), .int .i64 (L 9), .int .i64 (L 10), .int .i64 (L 11), .int .i64 (L 12), .int .i64 (L 13), .int .i64 (L 14), .int .i64 (L 15), .int .i64 (L 16), .int .i64 (L 17), .int .i64 (L 18), .int .i64 (L 19), .int .i64 (L 20), .int .i64 (L 21), .int .i64 (L 22), .int .i64 (L 23), .int .i64 (L 24), .int .i64 (R 0), .int .i64 (R 1), .int .i64 (R 2), .int .i64 (R 3), .int .i64 (R 4)] 81)).alloc (Obj.cells #[.int .i64 (wt 0), .int .i64 (wt 1), .int .i64 (wt 2), .int .i64 (wt 3), .int .i64 (wt 4)] 74)).alloc (Obj.cells #[.int .i64 0, .int .i64 0, .int .i64 0, .int .i64 0, .int .i64 0] 74)) := by go_grown
  have hsz : w.heap.size + 1 + 1 < (((w.alloc (Obj.cells #[.int .i64 n, .int .i64 (L 0), .int .i64 (L 1), .int .i64 (L 2), .int .i64 (L 3), .int .i64 (L 4), .int .i64 (L 5), .int .i64 (L 6), .int .i64 (L 7), .int .i64 (L 8), .int .i64 (L 9), .int .i64 (L 10), .int .i64 (L 11), .int .i64 (L 12), .int .i64 (L 13), .int .i64 (L 14), .int .i64 (L 15), .int .i64 (L 16), .int .i64 (L 17), .int .i64 (L 18), .int .i64 (L 19), .int .i64 (L 20), .int .i64 (L 21), .int .i64 (L 22), .int .i64 (L 23), .int .i64 (L 24), .int .i64 (R 0), .int .i64 (R 1), .int .i64 (R 2), .int .i64 (R 3), .int .i64 (R 4)] 81)).alloc (Obj.cells #[.int .i64 (wt 0), .int .i64 (wt 1), .int .i64 (wt 2), .int .i64 (wt 3), .int .i64 (wt 4)] 74)).alloc (Obj.cells #[.int .i64 0, .int .i64 0, .int .i64 0, .int .i64 0, .int .i64 0] 74)).heap.size := by simp
  clear hb hwt hnear HSQ0 HRE0
  unfold bkV
  unfold liV
  go_enter Try.func71, Try.ntmps71
  go_upto_region 1 with fail
  generalize (((w.alloc (Obj.cells #[.int .i64 n, .int .i64 (L 0), .int .i64 (L 1), .int .i64 (L 2), .int .i64 (L 3), .int .i64 (L 4), .int .i64 (L 5), .int .i64 (L 6), .int .i64 (L 7), .int .i64 (L 8), .int .i64 (L 9), .int .i64 (L 10), .int .i64 (L 11), .int .i64 (L 12), .int .i64 (L 13), .int .i64 (L 14), .int .i64 (L 15), .int .i64 (L 16), .int .i64 (L 17), .int .i64 (L 18), .int .i64 (L 19), .int .i64 (L 20), .int .i64 (L 21), .int .i64 (L 22), .int .i64 (L 23), .int .i64 (L 24), .int .i64 (R 0), .int .i64 (R 1), .int .i64 (R 2), .int .i64 (R 3), .int .i64 (R 4)] 81)).alloc (Obj.cells #[.int .i64 (wt 0), .int .i64 (wt 1), .int .i64 (wt 2), .int .i64 (wt 3), .int .i64 (wt 4)] 74)).alloc (Obj.cells #[.int .i64 0, .int .i64 0, .int .i64 0, .int .i64 0, .int .i64 0] 74)) = W at *
  have hbA : Below W.heap.size W (W.alloc (Obj.cells #[.int .i64 0, .int .i64 0, .int .i64 0, .int .i64 0, .int .i64 0] 74)) := (Below.refl _ _).alloc (Nat.le_refl _) _
  have HBK1 := Lib.hid (HBK0.out.keep hbA)
  have HLI1 := Lib.hid (HLI0.out.keep hbA)
  have HBE1 := Lib.hid (HBE0.out.keep hbA)
  have HB1 := Lib.hid (hb0.trans (hbA.mono hb0.size))
  have HPW1 : Hid (Intw (W.alloc (Obj.cells #[.int .i64 0, .int .i64 0, .int .i64 0, .int .i64 0, .int .i64 0] 74)) W.heap.size 5 (fun _ => 0)) := Lib.hid (fun j hj => by rcases (show j = 0 ∨ j = 1 ∨ j = 2 ∨ j = 3 ∨ j = 4 by omega) with rfl | rfl | rfl | rfl | rfl <;> exact ⟨by go_cell, by go_cell⟩)
  have hs1 : W.heap.size < (W.alloc (Obj.cells #[.int .i64 0, .int .i64 0, .int .i64 0, .int .i64 0, .int .i64 0] 74)).heap.size := by simp
  clear hbA HBK0 HLI0 HBE0 hb0
  go_wp2_with fail
  go_loopg [9, 10, 11] 9300 (fun k v9 v10 v11 wr => ∃ (t g10 : Nat) (fb mb : Bool) (best p : Nat → Int), v9 = .bool fb ∧ v10 = .pointer (some ⟨g10, 0, none⟩) ∧ v11 = .bool mb ∧ Hid (t + k = 9300) ∧ Hid (chT near n top t = if fb = true then some best else none) ∧ Hid (fb = false → best = fun _ => 0) ∧ Hid (∀ i, 0 ≤ best i ∧ best i ≤ 20) ∧ Hid (seqP n top t = if mb = true then some p else none) ∧ Hid (Bkw wr w.heap.size n L R) ∧ Hid (Intw wr (w.heap.size + 1) 5 wt) ∧ Hid (Intw wr (w.heap.size + 1 + 1) 5 best) ∧ Hid (Intw wr g10 5 p) ∧ Hid (Below w.heap.size w wr) ∧ w.heap.size + 1 + 1 < g10 ∧ g10 < wr.heap.size)
  case atStart => exact ⟨0, W.heap.size, false, true, fun _ => 0, fun _ => 0, rfl, rfl, rfl, Lib.hid (by omega), Lib.hid rfl, Lib.hid (fun _ => rfl), Lib.hid (fun i => by show (0 : Int) ≤ 0 ∧ (0 : Int) ≤ 20; omega), Lib.hid rfl, HBK1, HLI1, HBE1, HPW1, HB1, hsz, hs1⟩
  case round =>
    obtain ⟨t, g10, fb, mb, best, p, rfl, rfl, rfl, HTK, HCH, HBZ, HBI, HSQ, HBK, HLI, HBE, HPW, HB, hg10, hs10⟩ := hrel
    clear HBK1 HLI1 HBE1 HPW1 HB1 hs1
    cases mb with
    | false =>
      have HR1 : Hid (chT near n top 9300 = if fb = true then some best else none) := Lib.hid (by
        have h := (seq_end (near := near) (show seqP n top t = none from HSQ.out) gk).2
        rw [HTK.out] at h
        rw [h]; exact HCH.out)
      have HR2 : Hid (opL (chT near n top 9300) = best ∧ (chT near n top 9300).isSome = fb) := Lib.hid (by
        rw [HR1.out]
        cases fb with
        | false => exact ⟨(HBZ.out rfl).symm, rfl⟩
        | true => exact ⟨rfl, rfl⟩)
      obtain ⟨⟨q0, qz0⟩, ⟨q1, qz1⟩, ⟨q2, qz2⟩, ⟨q3, qz3⟩, ⟨q4, qz4⟩⟩ : _ ∧ _ ∧ _ ∧ _ ∧ _ := ⟨HBE.out 0 (by omega), HBE.out 1 (by omega), HBE.out 2 (by omega), HBE.out 3 (by omega), HBE.out 4 (by omega)⟩
      have hbl := HB.out
      have nb2 : w.heap.size + 1 + 1 < wr.heap.size := by omega
      clear HBK HLI HBE HPW HB HSQ HCH HBI HBZ HR1
      go_wp2_with fail
      refine bodyPost_ret (v := .tuple #[liV best, .bool fb]) (by unfold liV; simp [results, Try.results71, go_sem, *]) rfl ⟨by rw [← HR2.out.1, ← HR2.out.2]; rfl, by go_grown⟩
    | true =>
      replace HSQ : Hid (seqP n top t = some p) := Lib.hid HSQ.out
      have HPT := Lib.hid (seq_inv ht0 t p HSQ.out).1
      have HPI : Hid (∀ i, 0 ≤ p i ∧ p i ≤ 20) := Lib.hid (fun i => by have := HPT.out i; omega)
      have HTL := Lib.hid (seq_lt ht0 ht hn HSQ.out)
      have HCS := Lib.hid (ch_step (near := near) HSQ.out)
      clear HPT
      go_upto_region 4 with fail
      obtain ⟨bq, hbq⟩ : ∃ bq, (fb && decide (sm best ≤ sm p)) = bq := ⟨_, rfl⟩
      have HBQ := Lib.hid hbq
      clear hbq
      have HKS : Hid (∀ w', Below wr.heap.size wr w' → Intw w' g10 5 p ∧ Intw w' (w.heap.size + 1 + 1) 5 best) := Lib.hid (fun w' hb => ⟨HPW.out.keep hb, HBE.out.keep hb⟩)
      go_cut [28] (fun v28 wx => v28 = .bool bq ∧ Below wr.heap.size wr wx)
      case first =>
        cases fb with
        | false =>
          obtain rfl : bq = false := HBQ.out.symm
          have D0 : Below wr.heap.size wr wr.drew := (Below.refl _ _).drew
          refine wp_region_held_drew (S := fun w' => Intw w' g10 5 p ∧ Intw w' (w.heap.size + 1 + 1) 5 best) (by kernel_rfl) (HKS.out _ D0) (fun hHeld => ?_)
          refine wpAnyH_take (i := 0) (oi := _) (v := ?_) rfl (by kernel_rfl) (by kernel_rfl) (by kernel_rfl) (fun _ _ _ h => h) (Or.inl ⟨by rfl, ?_⟩) (by assumption) ?_
          rotate_left
          · intro w hSw; go_simp; (try with_reducible rfl)
          try change wpAnyH _ _ _ _ _ _ _ (Act.put _ (some 21) _) _
          try simp only [act_all]
          refine wpAnyH_take (i := 1) (oi := _) (v := ?_) rfl (by kernel_rfl) (by kernel_rfl) (by kernel_rfl) (fun _ _ _ h => h) (Or.inl ⟨by rfl, ?_⟩) (by assumption) ?_
          rotate_left
          · intro w hSw; go_simp; (try with_reducible rfl)
          try change wpAnyH _ _ _ _ _ _ _ (Act.put _ (some 22) _) _
          try simp only [act_all]
          refine wpAnyH_take (i := 2) (oi := _) (v := _) rfl (by kernel_rfl) (by kernel_rfl) (by kernel_rfl) (fun _ _ _ h => h) (Or.inr ⟨by rfl, rfl⟩) (by assumption) ?_
          try change wpAnyH _ _ _ _ _ _ _ (Act.put _ (some 23) _) _
          try simp only [act_all]
          refine wpAnyH_take (i := 3) (oi := _) (v := _) rfl (by kernel_rfl) (by kernel_rfl) (by kernel_rfl) (fun _ _ _ h => h) (Or.inr ⟨by rfl, rfl⟩) (by assumption) ?_
          try change wpAnyH _ _ _ _ _ _ _ (Act.put _ (some 24) _) _
          try simp only [act_all]
          refine wpAnyH_take (i := 4) (oi := _) (v := _) rfl (by kernel_rfl) (by kernel_rfl) (by kernel_rfl) (fun _ _ _ h => h) (Or.inr ⟨by rfl, rfl⟩) (by assumption) ?_
          try change wpAnyH _ _ _ _ _ _ _ (Act.put _ (some 25) _) _
          try simp only [act_all]
          refine wpAnyH_take (i := 5) (oi := _) (v := _) rfl (by kernel_rfl) (by kernel_rfl) (by kernel_rfl) (fun _ _ _ h => h) (Or.inr ⟨by rfl, rfl⟩) (by assumption) ?_
          try change wpAnyH _ _ _ _ _ _ _ (Act.put _ (some 26) _) _
          try simp only [act_all]
          refine wpAnyH_take (i := 6) (oi := _) (v := _) rfl (by kernel_rfl) (by kernel_rfl) (by kernel_rfl) (fun _ _ _ h => h) (Or.inr ⟨by rfl, rfl⟩) (by assumption) ?_
          try change wpAnyH _ _ _ _ _ _ _ (Act.put _ (some 27) _) _
          try simp only [act_all]
          refine wpAnyH_take (i := 7) (oi := _) (v := ?_) rfl (by kernel_rfl) (by kernel_rfl) (by kernel_rfl) (fun _ _ _ h => h) (Or.inl ⟨by rfl, ?_⟩) (by assumption) ?_
          rotate_left
          · intro w hSw; go_simp; (try with_reducible rfl)
          try change wpAnyH _ _ _ _ _ _ _ (Act.put _ (some 28) _) _
          try simp only [act_all]
          refine wpAnyH_done (by kernel_rfl) ?_ _
          have DF := D0
          clear hHeld
          go_wp2_with fail
          go_meet
          exact ⟨rfl, DF⟩
        | true =>
          have HQ2 : Hid (decide (sm best ≤ sm p) = bq) := Lib.hid (by rw [← HBQ.out]; rfl)
          obtain ⟨sp, hsp⟩ : ∃ sp, sm p = sp := ⟨_, rfl⟩
          obtain ⟨sb, hsb⟩ : ∃ sb, sm best = sb := ⟨_, rfl⟩
          have HSP : Hid (p 0 + p 1 + p 2 + p 3 + p 4 = sp) := Lib.hid hsp
          have HSB : Hid (best 0 + best 1 + best 2 + best 3 + best 4 = sb) := Lib.hid hsb
          rw [hsp, hsb] at HQ2
          have HPB : Hid (∀ i, (p i).natAbs ≤ 1000000000000000) := Lib.hid (fun i => by have := HPI.out i; omega)
          have HEB : Hid (∀ i, (best i).natAbs ≤ 1000000000000000) := Lib.hid (fun i => by have := HBI.out i; omega)
          clear hsp hsb
          have D0 : Below wr.heap.size wr wr.drew := (Below.refl _ _).drew
          refine wp_region_held_drew (S := fun w' => Intw w' g10 5 p ∧ Intw w' (w.heap.size + 1 + 1) 5 best) (by kernel_rfl) (HKS.out _ D0) (fun hHeld => ?_)
          refine wpAnyH_take (i := 0) (oi := _) (v := ?_) rfl (by kernel_rfl) (by kernel_rfl) (by kernel_rfl) (fun _ _ _ h => h) (Or.inl ⟨by rfl, ?_⟩) (by assumption) ?_
          rotate_left
          · intro w hSw; obtain ⟨sx, sy⟩ := hSw; obtain ⟨⟨x0, _⟩, ⟨x1, _⟩, ⟨x2, _⟩, ⟨x3, _⟩, ⟨x4, _⟩⟩ : _ ∧ _ ∧ _ ∧ _ ∧ _ := ⟨sx 0 (by omega), sx 1 (by omega), sx 2 (by omega), sx 3 (by omega), sx 4 (by omega)⟩; obtain ⟨⟨y0, _⟩, ⟨y1, _⟩, ⟨y2, _⟩, ⟨y3, _⟩, ⟨y4, _⟩⟩ : _ ∧ _ ∧ _ ∧ _ ∧ _ := ⟨sy 0 (by omega), sy 1 (by omega), sy 2 (by omega), sy 3 (by omega), sy 4 (by omega)⟩; clear sx sy; go_simp; (try with_reducible rfl)
          try change wpAnyH _ _ _ _ _ _ _ (Act.put _ (some 21) _) _
          try simp only [act_all]
          refine wpAnyH_take (i := 1) (oi := _) (v := ?_) rfl (by kernel_rfl) (by kernel_rfl) (by kernel_rfl) (fun _ _ _ h => h) (Or.inl ⟨by rfl, ?_⟩) (by assumption) ?_
          rotate_left
          · intro w hSw; obtain ⟨sx, sy⟩ := hSw; obtain ⟨⟨x0, _⟩, ⟨x1, _⟩, ⟨x2, _⟩, ⟨x3, _⟩, ⟨x4, _⟩⟩ : _ ∧ _ ∧ _ ∧ _ ∧ _ := ⟨sx 0 (by omega), sx 1 (by omega), sx 2 (by omega), sx 3 (by omega), sx 4 (by omega)⟩; obtain ⟨⟨y0, _⟩, ⟨y1, _⟩, ⟨y2, _⟩, ⟨y3, _⟩, ⟨y4, _⟩⟩ : _ ∧ _ ∧ _ ∧ _ ∧ _ := ⟨sy 0 (by omega), sy 1 (by omega), sy 2 (by omega), sy 3 (by omega), sy 4 (by omega)⟩; clear sx sy; go_simp; (try with_reducible rfl)
          try change wpAnyH _ _ _ _ _ _ _ (Act.put _ (some 22) _) _
          try simp only [act_all]
          refine wpAnyH_take (i := 2) (oi := _) (v := ?_) rfl (by kernel_rfl) (by kernel_rfl) (by kernel_rfl) (fun _ _ _ h => h) (Or.inl ⟨by rfl, ?_⟩) (by assumption) ?_
          rotate_left
          · intro w hSw; obtain ⟨sx, sy⟩ := hSw; obtain ⟨⟨x0, _⟩, ⟨x1, _⟩, ⟨x2, _⟩, ⟨x3, _⟩, ⟨x4, _⟩⟩ : _ ∧ _ ∧ _ ∧ _ ∧ _ := ⟨sx 0 (by omega), sx 1 (by omega), sx 2 (by omega), sx 3 (by omega), sx 4 (by omega)⟩; obtain ⟨⟨y0, _⟩, ⟨y1, _⟩, ⟨y2, _⟩, ⟨y3, _⟩, ⟨y4, _⟩⟩ : _ ∧ _ ∧ _ ∧ _ ∧ _ := ⟨sy 0 (by omega), sy 1 (by omega), sy 2 (by omega), sy 3 (by omega), sy 4 (by omega)⟩; clear sx sy; go_simp; (try with_reducible rfl)
          try change wpAnyH _ _ _ _ _ _ _ (Act.put _ (some 23) _) _
          try simp only [act_all]
          refine wpAnyH_take (i := 4) (oi := _) (v := ?_) rfl (by kernel_rfl) (by kernel_rfl) (by kernel_rfl) (fun _ _ _ h => h) (Or.inl ⟨by rfl, ?_⟩) (by assumption) ?_
          rotate_left
          · intro w hSw; obtain ⟨sx, sy⟩ := hSw; obtain ⟨⟨x0, _⟩, ⟨x1, _⟩, ⟨x2, _⟩, ⟨x3, _⟩, ⟨x4, _⟩⟩ : _ ∧ _ ∧ _ ∧ _ ∧ _ := ⟨sx 0 (by omega), sx 1 (by omega), sx 2 (by omega), sx 3 (by omega), sx 4 (by omega)⟩; obtain ⟨⟨y0, _⟩, ⟨y1, _⟩, ⟨y2, _⟩, ⟨y3, _⟩, ⟨y4, _⟩⟩ : _ ∧ _ ∧ _ ∧ _ ∧ _ := ⟨sy 0 (by omega), sy 1 (by omega), sy 2 (by omega), sy 3 (by omega), sy 4 (by omega)⟩; clear sx sy; go_simp; (try with_reducible rfl)
          try change wpAnyH _ _ _ _ _ _ _ (Act.put _ (some 25) _) _
          try simp only [act_all]
          refine wpAnyH_ready (rs := [3]) (by kernel_rfl) (by simp) ?_
          refine AllReadyH.cons (o := _) rfl (fun K hK => ?_) AllReadyH.nil
          go_simp
          refine (listSum_any _ _ _ _ _ _ (HPB.out 0) (HPB.out 1) (HPB.out 2) (HPB.out 3) (HPB.out 4)).mono ?_
          rw [HSP.out]
          rintro e c3 ⟨rfl, hb⟩
          have Dc3 : Below wr.heap.size wr c3 := D0.trans (hb.mono D0.size)
          clear hb hHeld
          refine hK.out _ _ (HKS.out _ Dc3) (fun hHeld => ?_)
          clear hK K
          try simp only [act_all]
          refine wpAnyH_ready (rs := [5]) (by kernel_rfl) (by simp) ?_
          refine AllReadyH.cons (o := _) rfl (fun K hK => ?_) AllReadyH.nil
          go_simp
          refine (listSum_any _ _ _ _ _ _ (HEB.out 0) (HEB.out 1) (HEB.out 2) (HEB.out 3) (HEB.out 4)).mono ?_
          rw [HSB.out]
          rintro e c5 ⟨rfl, hb⟩
          have Dc5 : Below wr.heap.size wr c5 := Dc3.trans (hb.mono Dc3.size)
          clear hb hHeld
          refine hK.out _ _ (HKS.out _ Dc5) (fun hHeld => ?_)
          clear hK K
          try simp only [act_all]
          refine wpAnyH_take (i := 6) (oi := _) (v := ?_) rfl (by kernel_rfl) (by kernel_rfl) (by kernel_rfl) (fun _ _ _ h => h) (Or.inl ⟨by rfl, ?_⟩) (by assumption) ?_
          rotate_left
          · intro w hSw; obtain ⟨sx, sy⟩ := hSw; obtain ⟨⟨x0, _⟩, ⟨x1, _⟩, ⟨x2, _⟩, ⟨x3, _⟩, ⟨x4, _⟩⟩ : _ ∧ _ ∧ _ ∧ _ ∧ _ := ⟨sx 0 (by omega), sx 1 (by omega), sx 2 (by omega), sx 3 (by omega), sx 4 (by omega)⟩; obtain ⟨⟨y0, _⟩, ⟨y1, _⟩, ⟨y2, _⟩, ⟨y3, _⟩, ⟨y4, _⟩⟩ : _ ∧ _ ∧ _ ∧ _ ∧ _ := ⟨sy 0 (by omega), sy 1 (by omega), sy 2 (by omega), sy 3 (by omega), sy 4 (by omega)⟩; clear sx sy; go_simp; (try with_reducible rfl)
          try change wpAnyH _ _ _ _ _ _ _ (Act.put _ (some 27) _) _
          try simp only [act_all]
          refine wpAnyH_take (i := 7) (oi := _) (v := ?_) rfl (by kernel_rfl) (by kernel_rfl) (by kernel_rfl) (fun _ _ _ h => h) (Or.inl ⟨by rfl, ?_⟩) (by assumption) ?_
          rotate_left
          · intro w hSw; obtain ⟨sx, sy⟩ := hSw; obtain ⟨⟨x0, _⟩, ⟨x1, _⟩, ⟨x2, _⟩, ⟨x3, _⟩, ⟨x4, _⟩⟩ : _ ∧ _ ∧ _ ∧ _ ∧ _ := ⟨sx 0 (by omega), sx 1 (by omega), sx 2 (by omega), sx 3 (by omega), sx 4 (by omega)⟩; obtain ⟨⟨y0, _⟩, ⟨y1, _⟩, ⟨y2, _⟩, ⟨y3, _⟩, ⟨y4, _⟩⟩ : _ ∧ _ ∧ _ ∧ _ ∧ _ := ⟨sy 0 (by omega), sy 1 (by omega), sy 2 (by omega), sy 3 (by omega), sy 4 (by omega)⟩; clear sx sy; go_simp; (try with_reducible rfl)
          try change wpAnyH _ _ _ _ _ _ _ (Act.put _ (some 28) _) _
          try simp only [act_all]
          refine wpAnyH_done (by kernel_rfl) ?_ _
          have DF := Dc5
          clear hHeld
          have hdq := HQ2.out
          by_cases hle : sb ≤ sp
          · obtain rfl : bq = true := by rw [← hdq]; exact decide_eq_true hle
            clear hdq HQ2 HBQ
            go_wp2_with fail
            go_meet
            exact ⟨by first | rfl | (simp [hle]; done) | (simp; omega), DF⟩
          · obtain rfl : bq = false := by rw [← hdq]; exact decide_eq_false hle
            clear hdq HQ2 HBQ
            go_wp2_with fail
            go_meet
            exact ⟨by first | rfl | (simp [hle]; done) | (simp; omega), DF⟩
      case rest =>
        obtain ⟨rfl, hD⟩ := hcut
        have HBKc := Lib.hid (HBK.out.keep hD)
        have HLIc := Lib.hid (HLI.out.keep hD)
        have HBEc := Lib.hid (HBE.out.keep hD)
        have HPWc := Lib.hid (HPW.out.keep hD)
        have HBc := Lib.hid (HB.out.trans (hD.mono HB.out.size))
        have hsc : g10 < wc.heap.size := by have := hD.size; omega
        clear hD HKS HBK HLI HBE HPW HB hs10
        cases bq with
        | true =>
          have HC2 : Hid (chT near n top (t + 1) = if fb = true then some best else none) := Lib.hid (by
            rw [HCS.out, HCH.out]
            have hq := HBQ.out
            rw [Bool.and_eq_true] at hq
            obtain ⟨h1, h2⟩ := hq
            rw [h1]
            unfold updB
            rw [if_pos (by rw [show opL (if true = true then some best else none) = best from rfl, h2]; rfl)])
          go_upto_region 7 with fail
          obtain ⟨⟨q0, _⟩, ⟨q1, _⟩, ⟨q2, _⟩, ⟨q3, _⟩, ⟨q4, _⟩⟩ : _ ∧ _ ∧ _ ∧ _ ∧ _ := ⟨HPWc.out 0 (by omega), HPWc.out 1 (by omega), HPWc.out 2 (by omega), HPWc.out 3 (by omega), HPWc.out 4 (by omega)⟩
          have hbA : Below wc.heap.size wc (wc.alloc (Obj.cells #[.int .i64 (p 0), .int .i64 (p 1), .int .i64 (p 2), .int .i64 (p 3), .int .i64 (p 4)] 74)) := (Below.refl _ _).alloc (Nat.le_refl _) _
          have HBK7 := Lib.hid (HBKc.out.keep hbA)
          have HLI7 := Lib.hid (HLIc.out.keep hbA)
          have HBE7 := Lib.hid (HBEc.out.keep hbA)
          have HB7 := Lib.hid (HBc.out.trans (hbA.mono HBc.out.size))
          have HPW7 : Hid (Intw (wc.alloc (Obj.cells #[.int .i64 (p 0), .int .i64 (p 1), .int .i64 (p 2), .int .i64 (p 3), .int .i64 (p 4)] 74)) wc.heap.size 5 p) := Lib.hid (fun j hj => by rcases (show j = 0 ∨ j = 1 ∨ j = 2 ∨ j = 3 ∨ j = 4 by omega) with rfl | rfl | rfl | rfl | rfl <;> exact ⟨by go_cell, by go_cell⟩)
          have hs7 : wc.heap.size < (wc.alloc (Obj.cells #[.int .i64 (p 0), .int .i64 (p 1), .int .i64 (p 2), .int .i64 (p 3), .int .i64 (p 4)] 74)).heap.size := by simp
          have hg7 : w.heap.size + 1 + 1 < wc.heap.size := by omega
          clear hbA HBKc HLIc HBEc HPWc HBc
          go_upto_region 3 with fail
          generalize (wc.alloc (Obj.cells #[.int .i64 (p 0), .int .i64 (p 1), .int .i64 (p 2), .int .i64 (p 3), .int .i64 (p 4)] 74)) = W7 at *
          generalize wc.heap.size = g7 at *
          clear q0 q1 q2 q3 q4
          obtain ⟨⟨q0, _⟩, ⟨q1, _⟩, ⟨q2, _⟩, ⟨q3, _⟩, ⟨q4, _⟩⟩ : _ ∧ _ ∧ _ ∧ _ ∧ _ := ⟨HPW7.out 0 (by omega), HPW7.out 1 (by omega), HPW7.out 2 (by omega), HPW7.out 3 (by omega), HPW7.out 4 (by omega)⟩
          have HRG := Lib.hid HBK7.out.range
          refine wp_region_lit ?_
          (refine wpList_load_mid rfl 81 _ rfl w.heap.size 0 rfl (bkL n L R) _ HRG.out Try.underlying81 rfl (infoBk n L R) ?_)
          refine wpList_step (fun K hK => ?_); go_simp; refine hK _ _ ?_; clear hK K
          refine wpList_step (fun K hK => ?_); go_simp; refine hK _ _ ?_; clear hK K
          refine wpList_step (fun K hK => ?_); go_simp
          refine (next_any n L R p top _ (by omega) (fun i _ => HPI.out i) (by omega)).mono ?_
          rintro e w8 ⟨rfl, hb⟩
          have HBK8 := Lib.hid (HBK7.out.keep hb)
          have HLI8 := Lib.hid (HLI7.out.keep hb)
          have HBE8 := Lib.hid (HBE7.out.keep hb)
          have HB8 := Lib.hid (HB7.out.trans (hb.mono HB7.out.size))
          have HPW8 := Lib.hid (HPW7.out.keep hb)
          have hs8 : g7 < w8.heap.size := by have := hb.size; omega
          clear hb HBK7 HLI7 HBE7 HPW7 HB7 HRG hs7 q0 q1 q2 q3 q4
          obtain ⟨p', hp'⟩ : ∃ p', opL (nxO top n p) = p' := ⟨_, rfl⟩
          obtain ⟨mb', hmb'⟩ : ∃ mb', (nxO top n p).isSome = mb' := ⟨_, rfl⟩
          have HSQ' : Hid (seqP n top (t + 1) = if mb' = true then some p' else none) := Lib.hid (by rw [← hp', ← hmb']; exact seq_step HSQ.out)
          rw [hp', hmb']
          clear hp' hmb'
          unfold liV
          refine hK _ _ ?_; clear hK K
          refine wpList_step (fun K hK => ?_); go_simp; refine hK _ _ ?_; clear hK K
          refine wpList_step (fun K hK => ?_); go_simp; refine hK _ _ ?_; clear hK K
          refine wpList_step (fun K hK => ?_); go_simp; refine hK _ _ ?_; clear hK K
          obtain ⟨⟨q0, qz0⟩, ⟨q1, qz1⟩, ⟨q2, qz2⟩, ⟨q3, qz3⟩, ⟨q4, qz4⟩⟩ : _ ∧ _ ∧ _ ∧ _ ∧ _ := ⟨HPW8.out 0 (by omega), HPW8.out 1 (by omega), HPW8.out 2 (by omega), HPW8.out 3 (by omega), HPW8.out 4 (by omega)⟩
          have HPW9 := Lib.hid (HPW8.out.five p')
          have HBK9 := Lib.hid (HBK8.out.fiveO (q := p') (m := g7) (by omega))
          have HLI9 := Lib.hid (HLI8.out.fiveO (q := p') (m := g7) (by omega))
          have HBE9 := Lib.hid (HBE8.out.fiveO (q := p') (m := g7) (by omega))
          have HB9 := Lib.hid (Below.fiveB (q := p') (m := g7) HB8.out (by omega))
          have hs9 : g7 < (((((w8.setCell ⟨g7, 0, none⟩ (.int .i64 (p' 0))).setCell ⟨g7, 1, none⟩ (.int .i64 (p' 1))).setCell ⟨g7, 2, none⟩ (.int .i64 (p' 2))).setCell ⟨g7, 3, none⟩ (.int .i64 (p' 3))).setCell ⟨g7, 4, none⟩ (.int .i64 (p' 4))).heap.size := by simpa using hs8
          refine wpList_step (fun K hK => ?_); go_simp; refine hK _ _ ?_; clear hK K
          refine wpList_step (fun K hK => ?_); go_simp; refine hK _ _ ?_; clear hK K
          refine wpList_nil ?_
          clear HPW8 HBK8 HLI8 HBE8 HB8 hs8 q0 q1 q2 q3 q4 qz0 qz1 qz2 qz3 qz4
          generalize (((((w8.setCell ⟨g7, 0, none⟩ (.int .i64 (p' 0))).setCell ⟨g7, 1, none⟩ (.int .i64 (p' 1))).setCell ⟨g7, 2, none⟩ (.int .i64 (p' 2))).setCell ⟨g7, 3, none⟩ (.int .i64 (p' 3))).setCell ⟨g7, 4, none⟩ (.int .i64 (p' 4))) = w9 at *
          go_wp2_with fail
          go_roundg (9300 - (t + 1))
          case measure => have := HTK.out; have := HTL.out; omega
          case rel => exact ⟨t + 1, g7, fb, mb', best, p', rfl, rfl, rfl, Lib.hid (by have := HTL.out; omega), HC2, HBZ, HBI, HSQ', HBK9, HLI9, HBE9, HPW9, HB9, hg7, hs9⟩
        | false =>
          have HC1 : Hid (chT near n top (t + 1) = if near p = true then some p else if fb = true then some best else none) := Lib.hid (by
            rw [HCS.out, HCH.out]
            have hq := HBQ.out
            cases fb with
            | false => rfl
            | true =>
              rw [Bool.true_and] at hq
              unfold updB
              rw [if_neg (by rw [show opL (if true = true then some best else none) = best from rfl, hq]; simp)])
          have HRG := Lib.hid HBKc.out.range
          obtain ⟨⟨q0, _⟩, ⟨q1, _⟩, ⟨q2, _⟩, ⟨q3, _⟩, ⟨q4, _⟩⟩ : _ ∧ _ ∧ _ ∧ _ ∧ _ := ⟨HPWc.out 0 (by omega), HPWc.out 1 (by omega), HPWc.out 2 (by omega), HPWc.out 3 (by omega), HPWc.out 4 (by omega)⟩
          obtain ⟨⟨l0, _⟩, ⟨l1, _⟩, ⟨l2, _⟩, ⟨l3, _⟩, ⟨l4, _⟩⟩ : _ ∧ _ ∧ _ ∧ _ ∧ _ := ⟨HLIc.out 0 (by omega), HLIc.out 1 (by omega), HLIc.out 2 (by omega), HLIc.out 3 (by omega), HLIc.out 4 (by omega)⟩
          obtain ⟨bn, hbn⟩ : ∃ bn, near p = bn := ⟨_, rfl⟩
          have HBN : Hid (inTo (fun i => timL n L p n 0 i - wt i) (-s) s 5 = bn) := Lib.hid (by rw [← HNE.out p, hbn])
          rw [hbn] at HC1
          clear hbn
          go_upto_region 5 with fail
          refine wp_region_lit ?_
          (refine wpList_load_mid rfl 81 _ rfl w.heap.size 0 rfl (bkL n L R) _ HRG.out Try.underlying81 rfl (infoBk n L R) ?_)
          refine wpList_step (fun K hK => ?_); go_simp; refine hK _ _ ?_; clear hK K
          refine wpList_step (fun K hK => ?_); go_simp; refine hK _ _ ?_; clear hK K
          refine wpList_step (fun K hK => ?_); go_simp; refine hK _ _ ?_; clear hK K
          refine wpList_step (fun K hK => ?_); go_simp
          refine (near_any n L R wt p s _ (by omega) (HBD.out p HPI.out) HWT.out).mono ?_
          rw [HBN.out]
          rintro e w5 ⟨rfl, hb⟩
          have HBK5 := Lib.hid (HBKc.out.keep hb)
          have HLI5 := Lib.hid (HLIc.out.keep hb)
          have HBE5 := Lib.hid (HBEc.out.keep hb)
          have HPW5 := Lib.hid (HPWc.out.keep hb)
          have HB5 := Lib.hid (HBc.out.trans (hb.mono HBc.out.size))
          have hs5 : g10 < w5.heap.size := by have := hb.size; omega
          refine hK _ _ ?_; clear hK K
          clear hb HBKc HLIc HBEc HPWc HBc hsc HRG q0 q1 q2 q3 q4 l0 l1 l2 l3 l4
          refine wpList_nil ?_
          cases bn with
          | false =>
            have HC2 : Hid (chT near n top (t + 1) = if fb = true then some best else none) := Lib.hid HC1.out
            go_upto_region 7 with fail
            obtain ⟨⟨q0, _⟩, ⟨q1, _⟩, ⟨q2, _⟩, ⟨q3, _⟩, ⟨q4, _⟩⟩ : _ ∧ _ ∧ _ ∧ _ ∧ _ := ⟨HPW5.out 0 (by omega), HPW5.out 1 (by omega), HPW5.out 2 (by omega), HPW5.out 3 (by omega), HPW5.out 4 (by omega)⟩
            have hbA : Below w5.heap.size w5 (w5.alloc (Obj.cells #[.int .i64 (p 0), .int .i64 (p 1), .int .i64 (p 2), .int .i64 (p 3), .int .i64 (p 4)] 74)) := (Below.refl _ _).alloc (Nat.le_refl _) _
            have HBK7 := Lib.hid (HBK5.out.keep hbA)
            have HLI7 := Lib.hid (HLI5.out.keep hbA)
            have HBE7 := Lib.hid (HBE5.out.keep hbA)
            have HB7 := Lib.hid (HB5.out.trans (hbA.mono HB5.out.size))
            have HPW7 : Hid (Intw (w5.alloc (Obj.cells #[.int .i64 (p 0), .int .i64 (p 1), .int .i64 (p 2), .int .i64 (p 3), .int .i64 (p 4)] 74)) w5.heap.size 5 p) := Lib.hid (fun j hj => by rcases (show j = 0 ∨ j = 1 ∨ j = 2 ∨ j = 3 ∨ j = 4 by omega) with rfl | rfl | rfl | rfl | rfl <;> exact ⟨by go_cell, by go_cell⟩)
            have hs7 : w5.heap.size < (w5.alloc (Obj.cells #[.int .i64 (p 0), .int .i64 (p 1), .int .i64 (p 2), .int .i64 (p 3), .int .i64 (p 4)] 74)).heap.size := by simp
            have hg7 : w.heap.size + 1 + 1 < w5.heap.size := by omega
            clear hbA HBK5 HLI5 HBE5 HPW5 HB5
            go_upto_region 3 with fail
            generalize (w5.alloc (Obj.cells #[.int .i64 (p 0), .int .i64 (p 1), .int .i64 (p 2), .int .i64 (p 3), .int .i64 (p 4)] 74)) = W7 at *
            generalize w5.heap.size = g7 at *
            clear q0 q1 q2 q3 q4
            obtain ⟨⟨q0, _⟩, ⟨q1, _⟩, ⟨q2, _⟩, ⟨q3, _⟩, ⟨q4, _⟩⟩ : _ ∧ _ ∧ _ ∧ _ ∧ _ := ⟨HPW7.out 0 (by omega), HPW7.out 1 (by omega), HPW7.out 2 (by omega), HPW7.out 3 (by omega), HPW7.out 4 (by omega)⟩
            have HRG := Lib.hid HBK7.out.range
            refine wp_region_lit ?_
            (refine wpList_load_mid rfl 81 _ rfl w.heap.size 0 rfl (bkL n L R) _ HRG.out Try.underlying81 rfl (infoBk n L R) ?_)
            refine wpList_step (fun K hK => ?_); go_simp; refine hK _ _ ?_; clear hK K
            refine wpList_step (fun K hK => ?_); go_simp; refine hK _ _ ?_; clear hK K
            refine wpList_step (fun K hK => ?_); go_simp
            refine (next_any n L R p top _ (by omega) (fun i _ => HPI.out i) (by omega)).mono ?_
            rintro e w8 ⟨rfl, hb⟩
            have HBK8 := Lib.hid (HBK7.out.keep hb)
            have HLI8 := Lib.hid (HLI7.out.keep hb)
            have HBE8 := Lib.hid (HBE7.out.keep hb)
            have HB8 := Lib.hid (HB7.out.trans (hb.mono HB7.out.size))
            have HPW8 := Lib.hid (HPW7.out.keep hb)
            have hs8 : g7 < w8.heap.size := by have := hb.size; omega
            clear hb HBK7 HLI7 HBE7 HPW7 HB7 HRG hs7 q0 q1 q2 q3 q4
            obtain ⟨p', hp'⟩ : ∃ p', opL (nxO top n p) = p' := ⟨_, rfl⟩
            obtain ⟨mb', hmb'⟩ : ∃ mb', (nxO top n p).isSome = mb' := ⟨_, rfl⟩
            have HSQ' : Hid (seqP n top (t + 1) = if mb' = true then some p' else none) := Lib.hid (by rw [← hp', ← hmb']; exact seq_step HSQ.out)
            rw [hp', hmb']
            clear hp' hmb'
            unfold liV
            refine hK _ _ ?_; clear hK K
            refine wpList_step (fun K hK => ?_); go_simp; refine hK _ _ ?_; clear hK K
            refine wpList_step (fun K hK => ?_); go_simp; refine hK _ _ ?_; clear hK K
            refine wpList_step (fun K hK => ?_); go_simp; refine hK _ _ ?_; clear hK K
            obtain ⟨⟨q0, qz0⟩, ⟨q1, qz1⟩, ⟨q2, qz2⟩, ⟨q3, qz3⟩, ⟨q4, qz4⟩⟩ : _ ∧ _ ∧ _ ∧ _ ∧ _ := ⟨HPW8.out 0 (by omega), HPW8.out 1 (by omega), HPW8.out 2 (by omega), HPW8.out 3 (by omega), HPW8.out 4 (by omega)⟩
            have HPW9 := Lib.hid (HPW8.out.five p')
            have HBK9 := Lib.hid (HBK8.out.fiveO (q := p') (m := g7) (by omega))
            have HLI9 := Lib.hid (HLI8.out.fiveO (q := p') (m := g7) (by omega))
            have HBE9 := Lib.hid (HBE8.out.fiveO (q := p') (m := g7) (by omega))
            have HB9 := Lib.hid (Below.fiveB (q := p') (m := g7) HB8.out (by omega))
            have hs9 : g7 < (((((w8.setCell ⟨g7, 0, none⟩ (.int .i64 (p' 0))).setCell ⟨g7, 1, none⟩ (.int .i64 (p' 1))).setCell ⟨g7, 2, none⟩ (.int .i64 (p' 2))).setCell ⟨g7, 3, none⟩ (.int .i64 (p' 3))).setCell ⟨g7, 4, none⟩ (.int .i64 (p' 4))).heap.size := by simpa using hs8
            refine wpList_step (fun K hK => ?_); go_simp; refine hK _ _ ?_; clear hK K
            refine wpList_step (fun K hK => ?_); go_simp; refine hK _ _ ?_; clear hK K
            refine wpList_nil ?_
            clear HPW8 HBK8 HLI8 HBE8 HB8 hs8 q0 q1 q2 q3 q4 qz0 qz1 qz2 qz3 qz4
            generalize (((((w8.setCell ⟨g7, 0, none⟩ (.int .i64 (p' 0))).setCell ⟨g7, 1, none⟩ (.int .i64 (p' 1))).setCell ⟨g7, 2, none⟩ (.int .i64 (p' 2))).setCell ⟨g7, 3, none⟩ (.int .i64 (p' 3))).setCell ⟨g7, 4, none⟩ (.int .i64 (p' 4))) = w9 at *
            go_wp2_with fail
            go_roundg (9300 - (t + 1))
            case measure => have := HTK.out; have := HTL.out; omega
            case rel => exact ⟨t + 1, g7, fb, mb', best, p', rfl, rfl, rfl, Lib.hid (by have := HTL.out; omega), HC2, HBZ, HBI, HSQ', HBK9, HLI9, HBE9, HPW9, HB9, hg7, hs9⟩
          | true =>
            have HC2 : Hid (chT near n top (t + 1) = if true = true then some p else none) := Lib.hid HC1.out
            go_upto_region 6 with fail
            obtain ⟨⟨q0, _⟩, ⟨q1, _⟩, ⟨q2, _⟩, ⟨q3, _⟩, ⟨q4, _⟩⟩ : _ ∧ _ ∧ _ ∧ _ ∧ _ := ⟨HPW5.out 0 (by omega), HPW5.out 1 (by omega), HPW5.out 2 (by omega), HPW5.out 3 (by omega), HPW5.out 4 (by omega)⟩
            obtain ⟨⟨e0, ez0⟩, ⟨e1, ez1⟩, ⟨e2, ez2⟩, ⟨e3, ez3⟩, ⟨e4, ez4⟩⟩ : _ ∧ _ ∧ _ ∧ _ ∧ _ := ⟨HBE5.out 0 (by omega), HBE5.out 1 (by omega), HBE5.out 2 (by omega), HBE5.out 3 (by omega), HBE5.out 4 (by omega)⟩
            have HBE6 := Lib.hid (HBE5.out.five p)
            have HBK6 := Lib.hid (HBK5.out.fiveO (q := p) (m := w.heap.size + 1 + 1) (by omega))
            have HLI6 := Lib.hid (HLI5.out.fiveO (q := p) (m := w.heap.size + 1 + 1) (by omega))
            have HPW6 := Lib.hid (HPW5.out.fiveO (q := p) (m := w.heap.size + 1 + 1) (by omega))
            have HB6 := Lib.hid (Below.fiveB (q := p) (m := w.heap.size + 1 + 1) HB5.out (by omega))
            have hs6 : g10 < (((((w5.setCell ⟨w.heap.size + 1 + 1, 0, none⟩ (.int .i64 (p 0))).setCell ⟨w.heap.size + 1 + 1, 1, none⟩ (.int .i64 (p 1))).setCell ⟨w.heap.size + 1 + 1, 2, none⟩ (.int .i64 (p 2))).setCell ⟨w.heap.size + 1 + 1, 3, none⟩ (.int .i64 (p 3))).setCell ⟨w.heap.size + 1 + 1, 4, none⟩ (.int .i64 (p 4))).heap.size := by simpa using hs5
            go_upto_region 7 with fail
            clear HBK5 HLI5 HBE5 HPW5 HB5 hs5 q0 q1 q2 q3 q4 e0 e1 e2 e3 e4 ez0 ez1 ez2 ez3 ez4
            generalize (((((w5.setCell ⟨w.heap.size + 1 + 1, 0, none⟩ (.int .i64 (p 0))).setCell ⟨w.heap.size + 1 + 1, 1, none⟩ (.int .i64 (p 1))).setCell ⟨w.heap.size + 1 + 1, 2, none⟩ (.int .i64 (p 2))).setCell ⟨w.heap.size + 1 + 1, 3, none⟩ (.int .i64 (p 3))).setCell ⟨w.heap.size + 1 + 1, 4, none⟩ (.int .i64 (p 4))) = w6 at *
            go_upto_region 7 with fail
            obtain ⟨⟨q0, _⟩, ⟨q1, _⟩, ⟨q2, _⟩, ⟨q3, _⟩, ⟨q4, _⟩⟩ : _ ∧ _ ∧ _ ∧ _ ∧ _ := ⟨HPW6.out 0 (by omega), HPW6.out 1 (by omega), HPW6.out 2 (by omega), HPW6.out 3 (by omega), HPW6.out 4 (by omega)⟩
            have hbA : Below w6.heap.size w6 (w6.alloc (Obj.cells #[.int .i64 (p 0), .int .i64 (p 1), .int .i64 (p 2), .int .i64 (p 3), .int .i64 (p 4)] 74)) := (Below.refl _ _).alloc (Nat.le_refl _) _
            have HBK7 := Lib.hid (HBK6.out.keep hbA)
            have HLI7 := Lib.hid (HLI6.out.keep hbA)
            have HBE7 := Lib.hid (HBE6.out.keep hbA)
            have HB7 := Lib.hid (HB6.out.trans (hbA.mono HB6.out.size))
            have HPW7 : Hid (Intw (w6.alloc (Obj.cells #[.int .i64 (p 0), .int .i64 (p 1), .int .i64 (p 2), .int .i64 (p 3), .int .i64 (p 4)] 74)) w6.heap.size 5 p) := Lib.hid (fun j hj => by rcases (show j = 0 ∨ j = 1 ∨ j = 2 ∨ j = 3 ∨ j = 4 by omega) with rfl | rfl | rfl | rfl | rfl <;> exact ⟨by go_cell, by go_cell⟩)
            have hs7 : w6.heap.size < (w6.alloc (Obj.cells #[.int .i64 (p 0), .int .i64 (p 1), .int .i64 (p 2), .int .i64 (p 3), .int .i64 (p 4)] 74)).heap.size := by simp
            have hg7 : w.heap.size + 1 + 1 < w6.heap.size := by omega
            clear hbA HBK6 HLI6 HBE6 HPW6 HB6
            go_upto_region 3 with fail
            generalize (w6.alloc (Obj.cells #[.int .i64 (p 0), .int .i64 (p 1), .int .i64 (p 2), .int .i64 (p 3), .int .i64 (p 4)] 74)) = W7 at *
            generalize w6.heap.size = g7 at *
            clear q0 q1 q2 q3 q4
            obtain ⟨⟨q0, _⟩, ⟨q1, _⟩, ⟨q2, _⟩, ⟨q3, _⟩, ⟨q4, _⟩⟩ : _ ∧ _ ∧ _ ∧ _ ∧ _ := ⟨HPW7.out 0 (by omega), HPW7.out 1 (by omega), HPW7.out 2 (by omega), HPW7.out 3 (by omega), HPW7.out 4 (by omega)⟩
            have HRG := Lib.hid HBK7.out.range
            refine wp_region_lit ?_
            (refine wpList_load_mid rfl 81 _ rfl w.heap.size 0 rfl (bkL n L R) _ HRG.out Try.underlying81 rfl (infoBk n L R) ?_)
            refine wpList_step (fun K hK => ?_); go_simp; refine hK _ _ ?_; clear hK K
            refine wpList_step (fun K hK => ?_); go_simp; refine hK _ _ ?_; clear hK K
            refine wpList_step (fun K hK => ?_); go_simp
            refine (next_any n L R p top _ (by omega) (fun i _ => HPI.out i) (by omega)).mono ?_
            rintro e w8 ⟨rfl, hb⟩
            have HBK8 := Lib.hid (HBK7.out.keep hb)
            have HLI8 := Lib.hid (HLI7.out.keep hb)
            have HBE8 := Lib.hid (HBE7.out.keep hb)
            have HB8 := Lib.hid (HB7.out.trans (hb.mono HB7.out.size))
            have HPW8 := Lib.hid (HPW7.out.keep hb)
            have hs8 : g7 < w8.heap.size := by have := hb.size; omega
            clear hb HBK7 HLI7 HBE7 HPW7 HB7 HRG hs7 q0 q1 q2 q3 q4
            obtain ⟨p', hp'⟩ : ∃ p', opL (nxO top n p) = p' := ⟨_, rfl⟩
            obtain ⟨mb', hmb'⟩ : ∃ mb', (nxO top n p).isSome = mb' := ⟨_, rfl⟩
            have HSQ' : Hid (seqP n top (t + 1) = if mb' = true then some p' else none) := Lib.hid (by rw [← hp', ← hmb']; exact seq_step HSQ.out)
            rw [hp', hmb']
            clear hp' hmb'
            unfold liV
            refine hK _ _ ?_; clear hK K
            refine wpList_step (fun K hK => ?_); go_simp; refine hK _ _ ?_; clear hK K
            refine wpList_step (fun K hK => ?_); go_simp; refine hK _ _ ?_; clear hK K
            refine wpList_step (fun K hK => ?_); go_simp; refine hK _ _ ?_; clear hK K
            obtain ⟨⟨q0, qz0⟩, ⟨q1, qz1⟩, ⟨q2, qz2⟩, ⟨q3, qz3⟩, ⟨q4, qz4⟩⟩ : _ ∧ _ ∧ _ ∧ _ ∧ _ := ⟨HPW8.out 0 (by omega), HPW8.out 1 (by omega), HPW8.out 2 (by omega), HPW8.out 3 (by omega), HPW8.out 4 (by omega)⟩
            have HPW9 := Lib.hid (HPW8.out.five p')
            have HBK9 := Lib.hid (HBK8.out.fiveO (q := p') (m := g7) (by omega))
            have HLI9 := Lib.hid (HLI8.out.fiveO (q := p') (m := g7) (by omega))
            have HBE9 := Lib.hid (HBE8.out.fiveO (q := p') (m := g7) (by omega))
            have HB9 := Lib.hid (Below.fiveB (q := p') (m := g7) HB8.out (by omega))
            have hs9 : g7 < (((((w8.setCell ⟨g7, 0, none⟩ (.int .i64 (p' 0))).setCell ⟨g7, 1, none⟩ (.int .i64 (p' 1))).setCell ⟨g7, 2, none⟩ (.int .i64 (p' 2))).setCell ⟨g7, 3, none⟩ (.int .i64 (p' 3))).setCell ⟨g7, 4, none⟩ (.int .i64 (p' 4))).heap.size := by simpa using hs8
            refine wpList_step (fun K hK => ?_); go_simp; refine hK _ _ ?_; clear hK K
            refine wpList_step (fun K hK => ?_); go_simp; refine hK _ _ ?_; clear hK K
            refine wpList_nil ?_
            clear HPW8 HBK8 HLI8 HBE8 HB8 hs8 q0 q1 q2 q3 q4 qz0 qz1 qz2 qz3 qz4
            generalize (((((w8.setCell ⟨g7, 0, none⟩ (.int .i64 (p' 0))).setCell ⟨g7, 1, none⟩ (.int .i64 (p' 1))).setCell ⟨g7, 2, none⟩ (.int .i64 (p' 2))).setCell ⟨g7, 3, none⟩ (.int .i64 (p' 3))).setCell ⟨g7, 4, none⟩ (.int .i64 (p' 4))) = w9 at *
            go_wp2_with fail
            go_roundg (9300 - (t + 1))
            case measure => have := HTK.out; have := HTL.out; omega
            case rel => exact ⟨t + 1, g7, true, mb', p, p', rfl, rfl, rfl, Lib.hid (by have := HTL.out; omega), HC2, Lib.hid (fun h => by cases h), HPI, HSQ', HBK9, HLI9, HBE9, HPW9, HB9, hg7, hs9⟩
end Go.Proofs.Ytldepffpafccpaa
