import Derived.Test.YtfilofnkiocbeaaCc8
namespace Ben
/-- Does a stuck switch allow a setting? -/
def myB (x : Int) (t : Bool) : Bool := x == 0 || (x == 2) == t
/-- The inverse of a permutation of the first n. -/
def ivN (n : Nat) (p : Nat → Nat) (y : Nat) : Nat := su (fun x => if p x = y then x else 0) n
theorem su_single {f : Nat → Nat} {n d : Nat} (hd : d < n) (h : ∀ j, j < n → j ≠ d → f j = 0) : su f n = f d := by
  have h1 : su (fun j => (if j = d then 1 else 0) * f d) n = 1 * f d := by
    rw [su_mul, su_one (f := fun j => if j = d then 1 else 0) hd (if_pos rfl) fun j _ hne => if_neg hne]
  rw [Nat.one_mul] at h1
  refine Eq.trans (su_congr fun j hj => ?_) h1
  by_cases e : j = d
  · rw [if_pos e, e, Nat.one_mul]
  · rw [if_neg e, Nat.zero_mul]; exact h j hj e
theorem ivN_eq {n : Nat} {p q : Nat → Nat} (P : Pm n p q) {y : Nat} (hy : y < n) : ivN n p y = q y := by
  unfold ivN
  rw [su_single (d := q y) (P.lq _ hy) fun j hj hne => if_neg fun e => hne (by rw [← e, P.qp _ hj]), if_pos (P.pq _ hy)]
theorem ivN_congr {n : Nat} {p p' : Nat → Nat} (h : ∀ x, x < n → p x = p' x) (y : Nat) : ivN n p y = ivN n p' y := su_congr fun x hx => by rw [h x hx]
/-- The permutations that sides leave to the upper and to the lower network. -/
def upS (p : Nat → Nat) (σ : Nat → Bool) (i : Nat) : Nat := p (if σ (2 * i) = true then 2 * i + 1 else 2 * i) / 2
def loS (p : Nat → Nat) (σ : Nat → Bool) (i : Nat) : Nat := p (if σ (2 * i) = true then 2 * i else 2 * i + 1) / 2
/-- Do stuck first and last switches allow sides? -/
def maS (h : Nat) (q : Nat → Nat) (st : Nat → Int) (σ : Nat → Bool) : Bool := decide (∀ j, j < h → myB (st j) (σ (2 * j)) = true ∧ myB (st (h + j)) (σ (q (2 * j))) = true)
/-- The ways of a permutation through a network of k + 1 levels. -/
def wN : Nat → (Nat → Nat) → (Nat → Int) → Nat
  | 0, p, st => if myB (st 0) (decide (p 0 = 1)) = true then 1 else 0
  | k + 1, p, st => su (fun a => if vaF (sz k) (ivN (sz (k + 1)) p) a = true then
      (if maS (sz k) (ivN (sz (k + 1)) p) st (sdF (bt a)) = true then
        wN k (upS p (sdF (bt a))) (fun i => st (sz (k + 1) + i)) * wN k (loS p (sdF (bt a))) (fun i => st (sz (k + 1) + cn k + i)) else 0) else 0) (2 ^ sz k)
/-- The ways for sides. -/
def wS (k : Nat) (p q : Nat → Nat) (st : Nat → Int) (σ : Nat → Bool) : Nat :=
  if maS (sz k) q st σ = true then wN k (upS p σ) (fun i => st (sz (k + 1) + i)) * wN k (loS p σ) (fun i => st (sz (k + 1) + cn k + i)) else 0
theorem vaF_congr {h : Nat} {q q' : Nat → Nat} (e : ∀ y, y < 2 * h → q y = q' y) (a : Nat) : vaF h q a = vaF h q' a := by
  unfold vaF
  exact decide_eq_decide.2 ⟨fun H y hy => by rw [← e y hy, ← e _ (pt_lt hy)]; exact H y hy, fun H y hy => by rw [e y hy, e _ (pt_lt hy)]; exact H y hy⟩
theorem maS_congr {h : Nat} {q q' : Nat → Nat} {st st' : Nat → Int} {σ σ' : Nat → Bool} (e : ∀ y, y < 2 * h → q y = q' y) (lq : ∀ y, y < 2 * h → q y < 2 * h) (es : ∀ j, j < 2 * h → st j = st' j) (eσ : ∀ x, x < 2 * h → σ x = σ' x) : maS h q st σ = maS h q' st' σ' := by
  unfold maS
  refine decide_eq_decide.2 (forall_congr' fun j => ?_)
  refine ⟨fun H hj => ?_, fun H hj => ?_⟩
  · have := H hj
    rwa [es j (by omega), es (h + j) (by omega), eσ (2 * j) (by omega), eσ _ (lq (2 * j) (by omega)), e (2 * j) (by omega)] at this
  · have := H hj
    rwa [← es j (by omega), ← es (h + j) (by omega), ← eσ (2 * j) (by omega), ← e (2 * j) (by omega), ← eσ _ (lq (2 * j) (by omega))] at this
theorem ivN_lt {n : Nat} {p q : Nat → Nat} (P : Pm n p q) {y : Nat} (hy : y < n) : ivN n p y < n := by rw [ivN_eq P hy]; exact P.lq _ hy
/-- Good sides leave permutations. -/
theorem upS_pm {h : Nat} {p q : Nat → Nat} {σ : Nat → Bool} (P : Pm (2 * h) p q) (G : Good h q σ) : Pm h (upS p σ) (upS q fun y => σ (q y)) := by
  have key : ∀ (p q : Nat → Nat) (σ : Nat → Bool), Pm (2 * h) p q → (∀ x, x < 2 * h → σ (pt x) = !σ x) → (∀ y, y < 2 * h → σ (q (pt y)) = !σ (q y)) →
      (∀ i, i < h → upS p σ i < h ∧ upS q (fun y => σ (q y)) (upS p σ i) = i) := by
    intro p q σ P g1 g2 i hi
    have hx : ∃ x, (if σ (2 * i) = true then 2 * i + 1 else 2 * i) = x ∧ x < 2 * h ∧ x / 2 = i ∧ σ x = false := by
      refine ⟨_, rfl, ?_⟩
      by_cases e : σ (2 * i) = true
      · rw [if_pos e]
        have h1 := g1 (2 * i) (by omega)
        rw [show pt (2 * i) = 2 * i + 1 by unfold pt; rw [if_pos (by omega)], e] at h1
        exact ⟨by omega, by omega, h1⟩
      · rw [if_neg e]
        exact ⟨by omega, by omega, Bool.eq_false_iff.2 e⟩
    obtain ⟨x, ex, hx, hxi, hσ⟩ := hx
    have hu : upS p σ i = p x / 2 := by unfold upS; rw [ex]
    have hpx := P.lp x hx
    refine ⟨by rw [hu]; omega, ?_⟩
    rw [hu]
    have hc : (if σ (q (2 * (p x / 2))) = true then 2 * (p x / 2) + 1 else 2 * (p x / 2)) = p x := by
      by_cases e : p x % 2 = 0
      · rw [show 2 * (p x / 2) = p x by omega, P.qp x hx, hσ, if_neg (by decide)]
      · have h1 := g2 (p x) hpx
        rw [show pt (p x) = 2 * (p x / 2) by unfold pt; rw [if_neg e]; omega, P.qp x hx, hσ] at h1
        rw [h1, if_pos (by decide)]; omega
    show q (if σ (q (2 * (p x / 2))) = true then 2 * (p x / 2) + 1 else 2 * (p x / 2)) / 2 = i
    rw [hc, P.qp x hx, hxi]
  have k1 := key p q σ P G.1 G.2
  have k2 := key q p (fun y => σ (q y)) ⟨P.lq, P.lp, P.pq, P.qp⟩ (fun y hy => G.2 y hy) (fun x hx => by rw [P.qp x hx, P.qp _ (pt_lt hx)]; exact G.1 x hx)
  have eq : ∀ i, i < h → upS p (fun x => (fun y => σ (q y)) (p x)) i = upS p σ i := by
    intro i hi
    unfold upS
    simp only [P.qp (2 * i) (by omega)]
  refine ⟨fun i hi => (k1 i hi).1, fun i hi => (k2 i hi).1, fun i hi => (k1 i hi).2, fun i hi => ?_⟩
  rw [← eq _ (k2 i hi).1]
  exact (k2 i hi).2
theorem loS_upS {h : Nat} {p : Nat → Nat} {σ : Nat → Bool} (i : Nat) (_ : i < h) : loS p σ i = upS p (fun x => !σ x) i := by
  unfold loS upS
  cases e : σ (2 * i) <;> simp [e]
theorem good_not {h : Nat} {q : Nat → Nat} {σ : Nat → Bool} (G : Good h q σ) : Good h q fun x => !σ x := ⟨fun x hx => by simp only; rw [G.1 x hx], fun y hy => by simp only; rw [G.2 y hy]⟩
theorem pm_congr {h : Nat} {p p' q : Nat → Nat} (e : ∀ i, i < h → p' i = p i) (P : Pm h p q) : Pm h p' q :=
  ⟨fun x hx => by rw [e x hx]; exact P.lp x hx, P.lq, fun x hx => by rw [e x hx]; exact P.qp x hx, fun y hy => by rw [e _ (P.lq y hy)]; exact P.pq y hy⟩
theorem loS_pm {h : Nat} {p q : Nat → Nat} {σ : Nat → Bool} (P : Pm (2 * h) p q) (G : Good h q σ) : Pm h (loS p σ) (upS q fun y => !σ (q y)) :=
  pm_congr (fun i hi => loS_upS i hi) (upS_pm P (good_not G))
theorem upS_congr {h : Nat} {p p' : Nat → Nat} {σ σ' : Nat → Bool} (e : ∀ x, x < 2 * h → p x = p' x) (eσ : ∀ x, x < 2 * h → σ x = σ' x) {i : Nat} (hi : i < h) : upS p σ i = upS p' σ' i := by
  unfold upS
  rw [eσ (2 * i) (by omega)]
  split
  · rw [e _ (by omega)]
  · rw [e _ (by omega)]
theorem loS_congr {h : Nat} {p p' : Nat → Nat} {σ σ' : Nat → Bool} (e : ∀ x, x < 2 * h → p x = p' x) (eσ : ∀ x, x < 2 * h → σ x = σ' x) {i : Nat} (hi : i < h) : loS p σ i = loS p' σ' i := by
  rw [loS_upS i hi, loS_upS i hi]
  exact upS_congr e (fun x hx => by rw [eσ x hx]) hi
theorem sz_succ (k : Nat) : sz (k + 1) = 2 * sz k := rfl
/-- Ways speak of what lies in the network alone. -/
theorem wN_congr : ∀ (k : Nat) {p p' : Nat → Nat} {st st' : Nat → Int}, (∀ x, x < sz k → p x = p' x) → (∀ j, j < cn k → st j = st' j) → wN k p st = wN k p' st'
  | 0, p, p', st, st', hp, hs => by
    simp only [wN]
    rw [hp 0 (by decide), hs 0 (by decide)]
  | k + 1, p, p', st, st', hp, hs => by
    simp only [wN]
    have hc := cn_pos k
    have hn : cn (k + 1) = sz (k + 1) + 2 * cn k := rfl
    have e1 : ivN (sz (k + 1)) p = ivN (sz (k + 1)) p' := funext fun y => ivN_congr hp y
    rw [e1]
    refine su_congr fun a _ => ?_
    have e2 : maS (sz k) (ivN (sz (k + 1)) p') st (sdF (bt a)) = maS (sz k) (ivN (sz (k + 1)) p') st' (sdF (bt a)) := by
      unfold maS
      refine decide_eq_decide.2 (forall_congr' fun j => ?_)
      refine ⟨fun H hj => ?_, fun H hj => ?_⟩
      · rw [← hs j (by rw [hn, sz_succ]; omega), ← hs (sz k + j) (by rw [hn, sz_succ]; omega)]; exact H hj
      · rw [hs j (by rw [hn, sz_succ]; omega), hs (sz k + j) (by rw [hn, sz_succ]; omega)]; exact H hj
    rw [e2]
    have e3 := wN_congr k (p := upS p (sdF (bt a))) (p' := upS p' (sdF (bt a))) (st := fun i => st (sz (k + 1) + i)) (st' := fun i => st' (sz (k + 1) + i)) (fun x hx => upS_congr (h := sz k) hp (fun _ _ => rfl) hx) (fun j hj => hs _ (by omega))
    have e4 := wN_congr k (p := loS p (sdF (bt a))) (p' := loS p' (sdF (bt a))) (st := fun i => st (sz (k + 1) + cn k + i)) (st' := fun i => st' (sz (k + 1) + cn k + i)) (fun x hx => loS_congr (h := sz k) hp (fun _ _ => rfl) hx) (fun j hj => hs _ (by omega))
    rw [e3, e4]
/-- The ways are the sum over the choices. -/
theorem wN_choices {k L : Nat} {p q id : Nat → Nat} {par : Nat → Bool} {s : Nat → Nat} {st : Nat → Int} (P : Pm (2 * sz k) p q) (H : Loops (sz k) L q id par s) :
    wN (k + 1) p st = su (fun m => wS k p q st (sdN id par m)) (2 ^ L) := by
  have e : ∀ y, y < 2 * sz k → ivN (sz (k + 1)) p y = q y := fun y hy => ivN_eq P hy
  have h1 : wN (k + 1) p st = su (fun a => if vaF (sz k) q a = true then wS k p q st (sdF (bt a)) else 0) (2 ^ sz k) := by
    simp only [wN]
    refine su_congr fun a _ => ?_
    rw [vaF_congr e a]
    unfold wS
    rw [maS_congr (σ := sdF (bt a)) (σ' := sdF (bt a)) (st := st) (st' := st) e (fun y hy => ivN_lt P hy) (fun _ _ => rfl) (fun _ _ => rfl)]
  rw [h1, choices_all H P.lq]
  refine su_congr fun m _ => ?_
  have eσ : ∀ x, x < 2 * sz k → sdF (bt (nuF (sz k) id par m)) x = sdN id par m x := fun x hx => sd_nu H hx
  unfold wS
  rw [maS_congr (σ' := sdN id par m) (st := st) (st' := st) (q := q) (q' := q) (fun _ _ => rfl) P.lq (fun _ _ => rfl) eσ,
    wN_congr k (p := upS p (sdF (bt (nuF (sz k) id par m)))) (p' := upS p (sdN id par m)) (fun x hx => upS_congr (h := sz k) (fun _ _ => rfl) eσ hx) (fun _ _ => rfl),
    wN_congr k (p := loS p (sdF (bt (nuF (sz k) id par m)))) (p' := loS p (sdN id par m)) (fun x hx => loS_congr (h := sz k) (fun _ _ => rfl) eσ hx) (fun _ _ => rfl)]
end Ben
