import Derived.Test.YtgbnpnenejgnnaaRb
import Derived.Test.YtgbnpnenejgnnaaEu
import Derived.Test.YtgbnpnenejgnnaaRp
namespace Encl
/-- A quotient by two times fifteen bits. -/
theorem od_loop {a b : Int} (hb : 0 < b) : (a / b * 32768 + (a - a / b * b) * 32768 / b) * 32768 + (a - a / b * b) * 32768 % b * 32768 / b = fl a 1073741824 b := by
  obtain ⟨q, hq⟩ : ∃ q, a / b = q := ⟨_, rfl⟩
  obtain ⟨r, hr⟩ : ∃ r, a - a / b * b = r := ⟨_, rfl⟩
  rw [hr, hq]
  rw [hq] at hr
  have e1 := Int.mul_ediv_add_emod (r * 32768) b
  obtain ⟨q1, hq1⟩ : ∃ q1, r * 32768 / b = q1 := ⟨_, rfl⟩
  obtain ⟨r1, hr1⟩ : ∃ r1, r * 32768 % b = r1 := ⟨_, rfl⟩
  rw [hq1, hr1] at e1
  rw [hq1, hr1]
  have e2 := Int.mul_ediv_add_emod (r1 * 32768) b
  have l0 := Int.emod_nonneg (r1 * 32768) (show b ≠ 0 by omega)
  have l1 := Int.emod_lt_of_pos (r1 * 32768) hb
  obtain ⟨q2, hq2⟩ : ∃ q2, r1 * 32768 / b = q2 := ⟨_, rfl⟩
  obtain ⟨r2, hr2⟩ : ∃ r2, r1 * 32768 % b = r2 := ⟨_, rfl⟩
  rw [hq2, hr2] at e2
  rw [hr2] at l0 l1
  rw [hq2]
  unfold fl
  have h : a * 1073741824 = r2 + ((q * 32768 + q1) * 32768 + q2) * b := by grind
  rw [h, Int.add_mul_ediv_right _ _ (by omega), Int.ediv_eq_zero_of_lt l0 l1]
  omega
theorem rn_okS {e e' : Int} {o : Out Sp} {s : Sp} (h : rn e o = (s, e')) (ho : ∀ t, o = .ok t → okS t = true) : okS s = true := by
  have h0 : okS S0 = true := by decide
  unfold rn at h
  split at h
  · cases o with
    | ok t => simp at h; rw [← h.1]; exact ho t rfl
    | bad k => simp at h; rw [← h.1]; exact h0
  · simp at h; rw [← h.1]; exact h0
theorem mulS_cases (x y : Sp) : (∃ s, mulS x y = .ok s) ∨ mulS x y = .bad 4 := by
  rw [mulS_eq]
  rcases inR_cases ⟨min (min (min (fl x.lo y.lo 1073741824) (fl x.lo y.hi 1073741824)) (fl x.hi y.lo 1073741824)) (fl x.hi y.hi 1073741824), max (max (max (ce x.lo y.lo 1073741824) (ce x.lo y.hi 1073741824)) (ce x.hi y.lo 1073741824)) (ce x.hi y.hi 1073741824)⟩ with h | h
  · exact .inl ⟨_, h⟩
  · exact .inr h
theorem sqS_cases (x : Sp) : (∃ s, sqS x = .ok s) ∨ sqS x = .bad 4 := by
  rw [sqS_eq]
  rcases inR_cases (zlo x ⟨min (fl x.lo x.lo 1073741824) (fl x.hi x.hi 1073741824), max (ce x.lo x.lo 1073741824) (ce x.hi x.hi 1073741824)⟩) with h | h
  · exact .inl ⟨_, h⟩
  · exact .inr h
theorem addS_cases (x y : Sp) : (∃ s, addS x y = .ok s) ∨ addS x y = .bad 4 := by
  unfold addS
  rcases inR_cases ⟨x.lo + y.lo, x.hi + y.hi⟩ with h | h
  · exact .inl ⟨_, h⟩
  · exact .inr h
theorem divS_cases (x y : Sp) (h : 0 < y.lo) (h2 : y.lo ≤ y.hi) : (∃ s, divS x y = .ok s) ∨ divS x y = .bad 4 := by
  rw [divS_eq x y h h2]
  rcases inR_cases ⟨min (min (min (fl x.lo 1073741824 y.lo) (fl x.lo 1073741824 y.hi)) (fl x.hi 1073741824 y.lo)) (fl x.hi 1073741824 y.hi), max (max (max (ce x.lo 1073741824 y.lo) (ce x.lo 1073741824 y.hi)) (ce x.hi 1073741824 y.lo)) (ce x.hi 1073741824 y.hi)⟩ with h | h
  · exact .inl ⟨_, h⟩
  · exact .inr h
theorem rn_four (o : Out Sp) : rn 4 o = (S0, 4) := rfl
theorem rn_51 (o : Out Sp) : rn 51 o = (S0, 51) := rfl

/-- The document's own way with a product, a power and a quotient: each step as the first error lets it. -/
def mulW (e : Int) (x y : Rc) : Rc × Int :=
  let a := rn e (mulS x.re y.re)
  let b := rn a.2 (mulS x.im y.im)
  let c := rn b.2 (subS a.1 b.1)
  let d := rn c.2 (mulS x.re y.im)
  let f := rn d.2 (mulS x.im y.re)
  let g := rn f.2 (addS d.1 f.1)
  (⟨c.1, g.1⟩, g.2)
def powW (e : Int) (x : Rc) : Sp × Int :=
  let a := rn e (sqS x.re)
  let b := rn a.2 (sqS x.im)
  rn b.2 (addS a.1 b.1)
def zerW (e : Int) (p : Sp) : Int := if e = 0 then (if p.lo ≤ 0 then 51 else 0) else e
def divW (e : Int) (x y : Rc) : Rc × Int :=
  let p := powW e y
  let z := mulW (zerW p.2 p.1) x (cjR y)
  let a := rn z.2 (divS z.1.re p.1)
  let b := rn a.2 (divS z.1.im p.1)
  (⟨a.1, b.1⟩, b.2)
theorem powW_eq (x : Rc) : powW 0 x = rn 0 (powR x) := by
  unfold powW powR
  rcases sqS_cases x.re with ⟨s, h⟩ | h <;> rw [h]
  · rcases sqS_cases x.im with ⟨t, g⟩ | g <;> rw [g] <;> rfl
  · rfl
theorem mulW_four (x y : Rc) : mulW 4 x y = (R0, 4) := rfl
theorem mulW_51 (x y : Rc) : mulW 51 x y = (R0, 51) := rfl
theorem mulW_eq (x y : Rc) : mulW 0 x y = (match mulR x y with | .ok z => (z, 0) | .bad _ => ((mulW 0 x y).1, 4)) ∧ (∀ k, mulR x y = .bad k → k = 4) := by
  unfold mulW mulR subS
  rcases mulS_cases x.re y.re with ⟨s1, h⟩ | h <;> rw [h] <;> simp only [Out.bind_ok, Out.bind_bad, rn_ok, rn_bad, rn_four]
  · rcases mulS_cases x.im y.im with ⟨s2, h⟩ | h <;> rw [h] <;> simp only [Out.bind_ok, Out.bind_bad, rn_ok, rn_bad, rn_four]
    · rcases addS_cases s1 (negS s2) with ⟨s3, h⟩ | h <;> rw [h] <;> simp only [Out.bind_ok, Out.bind_bad, rn_ok, rn_bad, rn_four]
      · rcases mulS_cases x.re y.im with ⟨s4, h⟩ | h <;> rw [h] <;> simp only [Out.bind_ok, Out.bind_bad, rn_ok, rn_bad, rn_four]
        · rcases mulS_cases x.im y.re with ⟨s5, h⟩ | h <;> rw [h] <;> simp only [Out.bind_ok, Out.bind_bad, rn_ok, rn_bad, rn_four]
          · rcases addS_cases s4 s5 with ⟨s6, h⟩ | h <;> rw [h] <;> simp [Out.bind_ok, Out.bind_bad, rn_ok, rn_bad]
          · simp
        · simp
      · simp
    · simp
  · simp
end Encl
namespace Go.Proofs.Ytgbnpnenejgnnaa
open Go.RowKit Encl
theorem rSpan_at (lo hi lo' hi' e0 : Int) (g : Nat) (w : World) (h1 : lo = lo') (h2 : hi = hi') (hc : w.cell? ⟨g, 0, none⟩ = some (.int .i64 e0)) (hf : w.frozen? ⟨g, 0, none⟩ = false) :
    Calls Try.prog 103 #[.pointer (some ⟨g, 0, none⟩), .int .i64 lo, .int .i64 hi] w fun e w' => e = retS (rn e0 (inR ⟨lo', hi'⟩)).1 ∧ Wk g (rn e0 (inR ⟨lo', hi'⟩)).2 w.heap.size w w' := by
  subst h1; subst h2
  exact rSpan_any lo hi e0 g w hc hf
theorem fin_mul (x y : Rc) : fin (mulW 0 x y).1 (mulW 0 x y).2 = mulR x y := by
  obtain ⟨h, g⟩ := mulW_eq x y
  cases hm : mulR x y with
  | ok z => rw [hm] at h; simp only at h; rw [h]; rfl
  | bad k => rw [hm] at h; simp only at h; obtain rfl := g k hm; rw [h]; rfl
theorem fin_div (x y : Rc) : fin (divW 0 x y).1 (divW 0 x y).2 = divR x y := by
  unfold divW divR
  simp only
  rw [powW_eq y]
  cases hp : powR y with
  | bad k =>
    have hk : k = 4 := by
      unfold powR at hp
      rcases sqS_cases y.re with ⟨s, h⟩ | h <;> rw [h] at hp
      · rcases sqS_cases y.im with ⟨t, g⟩ | g <;> rw [g] at hp
        · simp only [Out.bind_ok] at hp
          rcases addS_cases s t with ⟨u, f⟩ | f <;> rw [f] at hp
          · simp at hp
          · simp at hp; omega
        · simp at hp; omega
      · simp at hp; omega
    subst hk
    simp only [rn_bad, Out.bind_bad]
    rfl
  | ok p =>
    have hok := powR_ok hp
    rw [okS_iff] at hok
    simp only [rn_ok, Out.bind_ok]
    by_cases hl : p.lo ≤ 0
    · rw [if_pos hl]
      have : zerW 0 p = 51 := by simp [zerW, hl]
      rw [this, mulW_51]
      rfl
    · rw [if_neg hl]
      have : zerW 0 p = 0 := by simp [zerW, hl]
      rw [this]
      obtain ⟨h, g⟩ := mulW_eq x (cjR y)
      cases hm : mulR x (cjR y) with
      | bad k =>
        rw [hm] at h; simp only at h
        obtain rfl := g k hm
        rw [h]
        simp only [Out.bind_bad]
        rw [rn_four]
        simp only
        rw [rn_four]
        rfl
      | ok z =>
        rw [hm] at h; simp only at h
        rw [h]
        simp only [Out.bind_ok]
        rcases divS_cases z.re p (by omega) hok.2.1 with ⟨s, h1⟩ | h1 <;> rw [h1] <;> simp only [rn_ok, rn_bad, Out.bind_ok, Out.bind_bad]
        · rcases divS_cases z.im p (by omega) hok.2.1 with ⟨t, h2⟩ | h2 <;> rw [h2] <;> simp only [rn_ok, rn_bad, Out.bind_ok, Out.bind_bad] <;> rfl
        · rw [rn_four]; rfl
end Go.Proofs.Ytgbnpnenejgnnaa
