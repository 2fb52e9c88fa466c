import Derived.Test.YtgbnpnenejgnnaaEu
/-! Maths of joined two-ports: Star, Mirror. -/
namespace Encl
def one1 : Rc := ⟨⟨1073741824, 1073741824⟩, S0⟩
/-- A two-port: S[0][0], S[0][1], S[1][0], S[1][1]. -/
structure Po where
  a : Rc
  b : Rc
  c : Rc
  d : Rc
deriving DecidableEq
def okO (p : Po) : Prop := okR p.a = true ∧ okR p.b = true ∧ okR p.c = true ∧ okR p.d = true
def mirP (p : Po) : Po := ⟨p.d, p.c, p.b, p.a⟩
theorem mir_mir (p : Po) : mirP (mirP p) = p := rfl
/-- What goes to and fro: 1 - p11 q00. -/
def starD (p q : Po) : Out Rc := (mulR p.d q.a).bind fun m => subR one1 m
/-- One entry that goes to and fro: x + y u v / d. -/
def starT (x y u v d : Rc) : Out Rc := (mulR y u).bind fun s => (mulR s v).bind fun t => (divR t d).bind fun z => addR x z
/-- One entry that goes through: x y / d. -/
def starH (x y d : Rc) : Out Rc := (mulR x y).bind fun u => divR u d
def starR (p q : Po) : Out Po := (starD p q).bind fun d => (starT p.a p.b q.a p.c d).bind fun s0 => (starH p.b q.b d).bind fun s1 => (starH q.c p.c d).bind fun s2 => (starT q.d q.c p.d q.b d).bind fun s3 => .ok ⟨s0, s1, s2, s3⟩
theorem bind_all {α β : Type} {o : Out α} {f : α → Out β} {a : α} {r : Out β} (h : o = .ok a) (g : f a = r) : o.bind f = r := by rw [h]; exact g
theorem mulS_comm (x y : Sp) : mulS x y = mulS y x := by
  rw [mulS_eq, mulS_eq]
  unfold fl ce
  rw [Int.mul_comm y.lo x.lo, Int.mul_comm y.lo x.hi, Int.mul_comm y.hi x.lo, Int.mul_comm y.hi x.hi]
  congr 2 <;> omega
theorem addS_comm (x y : Sp) : addS x y = addS y x := by
  unfold addS
  rw [Int.add_comm x.lo, Int.add_comm x.hi]
theorem mulR_comm {x y r : Rc} (h : mulR x y = .ok r) : mulR y x = .ok r := by
  unfold mulR at h ⊢
  obtain ⟨a, ha, h⟩ := bind_okI h
  obtain ⟨b, hb, h⟩ := bind_okI h
  obtain ⟨re, hre, h⟩ := bind_okI h
  obtain ⟨c, hc, h⟩ := bind_okI h
  obtain ⟨d, hd, h⟩ := bind_okI h
  obtain ⟨im, him, h⟩ := bind_okI h
  rw [mulS_comm y.re x.re, ha, Out.bind_ok, mulS_comm y.im x.im, hb, Out.bind_ok, hre, Out.bind_ok, mulS_comm y.re x.im, hd, Out.bind_ok, mulS_comm y.im x.re, hc, Out.bind_ok, addS_comm, him, Out.bind_ok]
  exact h
theorem starD_mir {p q : Po} {d : Rc} (h : starD p q = .ok d) : starD (mirP q) (mirP p) = .ok d := by
  obtain ⟨m, hm, h⟩ := bind_okI h
  exact bind_all (mulR_comm hm) h
/-- Joining the mirrors in the other order is the mirror of what was joined. -/
theorem star_mir {p q s : Po} (h : starR p q = .ok s) : starR (mirP q) (mirP p) = .ok (mirP s) := by
  obtain ⟨d, hd, h⟩ := bind_okI h
  obtain ⟨s0, h0, h⟩ := bind_okI h
  obtain ⟨s1, h1, h⟩ := bind_okI h
  obtain ⟨s2, h2, h⟩ := bind_okI h
  obtain ⟨s3, h3, h⟩ := bind_okI h
  cases h
  exact bind_all (starD_mir hd) (bind_all h3 (bind_all h2 (bind_all h1 (bind_all h0 rfl))))
/-! What lets all through. -/
theorem fl_one (a : Int) : fl a 1073741824 1073741824 = a := Int.mul_ediv_cancel a (by decide)
theorem ce_one (a : Int) : ce a 1073741824 1073741824 = a := by
  unfold ce
  rw [← Int.neg_mul, Int.mul_ediv_cancel _ (by decide), Int.neg_neg]
theorem fl_zero (a : Int) : fl a 0 1073741824 = 0 := by unfold fl; rw [Int.mul_zero, Int.zero_ediv]
theorem ce_zero (a : Int) : ce a 0 1073741824 = 0 := by unfold ce; rw [Int.mul_zero, Int.neg_zero, Int.zero_ediv, Int.neg_zero]
theorem okS_S0 : okS S0 = true := by decide
theorem mulS_one {x : Sp} (h : okS x = true) : mulS x ⟨1073741824, 1073741824⟩ = .ok x := by
  have hx := (okS_iff x).1 h
  rw [mulS_eq]
  simp only [fl_one, ce_one]
  rw [show (⟨min (min (min x.lo x.lo) x.hi) x.hi, max (max (max x.lo x.lo) x.hi) x.hi⟩ : Sp) = x from Sp.ext' (by show min (min (min x.lo x.lo) x.hi) x.hi = x.lo; omega) (by show max (max (max x.lo x.lo) x.hi) x.hi = x.hi; omega)]
  exact inR_ok h
theorem mulS_zero (x : Sp) : mulS x S0 = .ok S0 := by
  rw [mulS_eq]
  simp only [S0, fl_zero, ce_zero]
  rfl
theorem divS_one {x : Sp} (h : okS x = true) : divS x ⟨1073741824, 1073741824⟩ = .ok x := by
  have hx := (okS_iff x).1 h
  rw [divS_eq x _ (by decide) (by decide)]
  simp only [fl_one, ce_one]
  rw [show (⟨min (min (min x.lo x.lo) x.hi) x.hi, max (max (max x.lo x.lo) x.hi) x.hi⟩ : Sp) = x from Sp.ext' (by show min (min (min x.lo x.lo) x.hi) x.hi = x.lo; omega) (by show max (max (max x.lo x.lo) x.hi) x.hi = x.hi; omega)]
  exact inR_ok h
theorem addS_zero {x : Sp} (h : okS x = true) : addS x S0 = .ok x := by
  unfold addS
  rw [show (⟨x.lo + S0.lo, x.hi + S0.hi⟩ : Sp) = x from Sp.ext' (Int.add_zero _) (Int.add_zero _)]
  exact inR_ok h
theorem zero_addS {x : Sp} (h : okS x = true) : addS S0 x = .ok x := by rw [addS_comm]; exact addS_zero h
theorem subS_zero {x : Sp} (h : okS x = true) : subS x S0 = .ok x := addS_zero h
theorem mulR_one {x : Rc} (h : okR x = true) : mulR x one1 = .ok x := by
  obtain ⟨h1, h2⟩ := (okR_iff x).1 h
  unfold mulR one1
  dsimp only
  rw [mulS_one h1, Out.bind_ok, mulS_zero, Out.bind_ok, subS_zero h1, Out.bind_ok, mulS_zero, Out.bind_ok, mulS_one h2, Out.bind_ok, zero_addS h2, Out.bind_ok]
theorem one_mulR {x : Rc} (h : okR x = true) : mulR one1 x = .ok x := mulR_comm (mulR_one h)
theorem mulR_zero (x : Rc) : mulR x R0 = .ok R0 := by
  unfold mulR R0
  dsimp only
  simp only [mulS_zero, Out.bind_ok, subS_zero okS_S0, zero_addS okS_S0]
theorem zero_mulR (x : Rc) : mulR R0 x = .ok R0 := mulR_comm (mulR_zero x)
theorem okR_R0 : okR R0 = true := by decide
theorem addR_zero {x : Rc} (h : okR x = true) : addR x R0 = .ok x := by
  obtain ⟨h1, h2⟩ := (okR_iff x).1 h
  unfold addR R0
  dsimp only
  rw [addS_zero h1, Out.bind_ok, addS_zero h2, Out.bind_ok]
theorem zero_addR {x : Rc} (h : okR x = true) : addR R0 x = .ok x := by
  obtain ⟨h1, h2⟩ := (okR_iff x).1 h
  unfold addR R0
  dsimp only
  rw [zero_addS h1, Out.bind_ok, zero_addS h2, Out.bind_ok]
theorem powR_one : powR one1 = .ok ⟨1073741824, 1073741824⟩ := by decide
theorem cj_one : cjR one1 = one1 := by decide
theorem divR_one {x : Rc} (h : okR x = true) : divR x one1 = .ok x := by
  obtain ⟨h1, h2⟩ := (okR_iff x).1 h
  unfold divR
  rw [powR_one, Out.bind_ok, if_neg (by decide), cj_one, mulR_one h, Out.bind_ok, divS_one h1, Out.bind_ok, divS_one h2, Out.bind_ok]
/-- A two-port that lets all through changes nothing. -/
theorem star_one {p : Po} (h : okO p) : starR p ⟨R0, one1, one1, R0⟩ = .ok p := by
  obtain ⟨ha, hb, hc, hd⟩ := h
  have hD : starD p ⟨R0, one1, one1, R0⟩ = .ok one1 := by
    unfold starD
    rw [mulR_zero, Out.bind_ok]
    decide
  have h0 : starT p.a p.b R0 p.c one1 = .ok p.a := by
    unfold starT
    rw [mulR_zero, Out.bind_ok, zero_mulR, Out.bind_ok, divR_one okR_R0, Out.bind_ok, addR_zero ha]
  have h1 : starH p.b one1 one1 = .ok p.b := by
    unfold starH
    rw [mulR_one hb, Out.bind_ok, divR_one hb]
  have h2 : starH one1 p.c one1 = .ok p.c := by
    unfold starH
    rw [one_mulR hc, Out.bind_ok, divR_one hc]
  have h3 : starT R0 one1 p.d one1 one1 = .ok p.d := by
    unfold starT
    rw [one_mulR hd, Out.bind_ok, mulR_one hd, Out.bind_ok, divR_one hd, Out.bind_ok, zero_addR hd]
  exact bind_all hD (bind_all h0 (bind_all h1 (bind_all h2 (bind_all h3 rfl))))
/-- What is joined is valid. -/
theorem star_ok {p q s : Po} (h : starR p q = .ok s) : okO s := by
  obtain ⟨d, hd, h⟩ := bind_okI h
  obtain ⟨s0, h0, h⟩ := bind_okI h
  obtain ⟨s1, h1, h⟩ := bind_okI h
  obtain ⟨s2, h2, h⟩ := bind_okI h
  obtain ⟨s3, h3, h⟩ := bind_okI h
  cases h
  refine ⟨?_, ?_, ?_, ?_⟩
  · obtain ⟨_, _, h0⟩ := bind_okI h0
    obtain ⟨_, _, h0⟩ := bind_okI h0
    obtain ⟨_, _, h0⟩ := bind_okI h0
    exact addR_ok h0
  · obtain ⟨_, _, h1⟩ := bind_okI h1
    exact divR_ok h1
  · obtain ⟨_, _, h2⟩ := bind_okI h2
    exact divR_ok h2
  · obtain ⟨_, _, h3⟩ := bind_okI h3
    obtain ⟨_, _, h3⟩ := bind_okI h3
    obtain ⟨_, _, h3⟩ := bind_okI h3
    exact addR_ok h3
end Encl
