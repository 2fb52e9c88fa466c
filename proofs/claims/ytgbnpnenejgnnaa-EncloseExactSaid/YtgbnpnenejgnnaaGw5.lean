import Derived.Test.YtgbnpnenejgnnaaGm5
import Derived.Test.YtgbnpnenejgnnaaMi
import Derived.Deep.DeepCutAuto
namespace Encl
/-- An error is never 0. -/
def Ne0 {α : Type} (o : Out α) : Prop := ∀ k, o = .bad k → ¬ k = 0
theorem ne0_inR (s : Sp) : Ne0 (inR s) := by
  intro k h
  unfold inR at h
  split at h
  · cases h
  · have := Out.bad.inj h; omega
theorem ne0_bind {α β : Type} {o : Out α} {f : α → Out β} (h : Ne0 o) (hf : ∀ a, o = .ok a → Ne0 (f a)) : Ne0 (o.bind f) := by
  cases o with
  | ok a => exact hf a rfl
  | bad k => intro j hj; have := Out.bad.inj hj; exact this ▸ h k rfl
theorem ne0_ok {α : Type} (a : α) : Ne0 (.ok a : Out α) := fun _ h => by cases h
theorem ne0_addS (x y : Sp) : Ne0 (addS x y) := ne0_inR _
theorem ne0_subS (x y : Sp) : Ne0 (subS x y) := ne0_inR _
theorem ne0_mulS (x y : Sp) : Ne0 (mulS x y) := by rw [mulS_eq]; exact ne0_inR _
theorem ne0_sqS (x : Sp) : Ne0 (sqS x) := by rw [sqS_eq]; exact ne0_inR _
theorem ne0_divS (x y : Sp) (h : 0 < y.lo) (h2 : y.lo ≤ y.hi) : Ne0 (divS x y) := by rw [divS_eq x y h h2]; exact ne0_inR _
theorem ne0_addR (x y : Rc) : Ne0 (addR x y) := ne0_bind (ne0_addS _ _) fun _ _ => ne0_bind (ne0_addS _ _) fun _ _ => ne0_ok _
theorem ne0_subR (x y : Rc) : Ne0 (subR x y) := ne0_bind (ne0_subS _ _) fun _ _ => ne0_bind (ne0_subS _ _) fun _ _ => ne0_ok _
theorem ne0_mulR (x y : Rc) : Ne0 (mulR x y) := ne0_bind (ne0_mulS _ _) fun _ _ => ne0_bind (ne0_mulS _ _) fun _ _ => ne0_bind (ne0_subS _ _) fun _ _ => ne0_bind (ne0_mulS _ _) fun _ _ => ne0_bind (ne0_mulS _ _) fun _ _ => ne0_bind (ne0_addS _ _) fun _ _ => ne0_ok _
theorem ne0_powR (x : Rc) : Ne0 (powR x) := ne0_bind (ne0_sqS _) fun _ _ => ne0_bind (ne0_sqS _) fun _ _ => ne0_addS _ _
theorem ne0_divR (x y : Rc) : Ne0 (divR x y) := by
  refine ne0_bind (ne0_powR _) fun p hp => ?_
  have hk := (okS_iff p).1 (powR_ok hp)
  split
  · intro k h; have := Out.bad.inj h; omega
  · exact ne0_bind (ne0_mulR _ _) fun z _ => ne0_bind (ne0_divS _ _ (by omega) hk.2.1) fun _ _ => ne0_bind (ne0_divS _ _ (by omega) hk.2.1) fun _ _ => ne0_ok _
theorem inS_iff (x y : Sp) : inS x y = true ↔ InS x y := by unfold inS InS; simp
/-- What it says that one lies in the other. -/
theorem inside_iff (x y : Rc) : (insideS x y).1 = true ↔ okR x = true ∧ okR y = true ∧ InR x y := by
  unfold insideS
  rw [two_iff]
  by_cases h : (okR x && okR y) = true
  · rw [if_pos h]
    simp only [Bool.and_eq_true] at h ⊢
    rw [inS_iff, inS_iff]
    exact ⟨fun g => ⟨h.1, h.2, g⟩, fun g => g.2.2⟩
  · rw [if_neg h]
    simp only [Bool.and_eq_true] at h
    constructor
    · intro g; cases g
    · intro g; exact absurd ⟨g.1, g.2.1⟩ h
theorem inside_zero {x y : Rc} (h : (insideS x y).1 = true) : (insideS x y).2 = 0 := by
  unfold insideS at h ⊢
  split
  · rfl
  · next h' => rw [if_neg h'] at h; cases h
end Encl
namespace Go.Proofs.Ytgbnpnenejgnnaa
open Go.RowKit Encl

set_option maxRecDepth 100000 in
set_option maxHeartbeats 2000000 in
theorem inL_any (a b c d s t u v : Int) (w : World) :
    Calls Try.prog 50 #[.agg #[.int .i64 a, .int .i64 b, .int .i64 c, .int .i64 d], .agg #[.int .i64 s, .int .i64 t, .int .i64 u, .int .i64 v]] w fun e w' => e = .returned (.bool (insideS ⟨⟨a, b⟩, ⟨c, d⟩⟩ ⟨⟨s, t⟩, ⟨u, v⟩⟩).1) ∧ Below w.heap.size w w' := by
  obtain ⟨ib, ie, hi⟩ : ∃ ib ie, insideS ⟨⟨a, b⟩, ⟨c, d⟩⟩ ⟨⟨s, t⟩, ⟨u, v⟩⟩ = (ib, ie) := ⟨_, _, rfl⟩
  have hz := inside_zero (x := ⟨⟨a, b⟩, ⟨c, d⟩⟩) (y := ⟨⟨s, t⟩, ⟨u, v⟩⟩)
  rw [hi] at hz
  simp only at hz
  have HI := Lib.hid hi
  rw [hi]
  clear hi
  cases ib with
  | true =>
    obtain rfl := hz rfl
    go_enter Try.func50, Try.ntmps50
    go_wp2_with fail
    refine (eInside_any a b c d s t u v _).mono ?_
    rw [HI.out]
    rintro e w1 ⟨rfl, hb⟩
    have D1 : Below w.heap.size w w1 := Below.trans (by go_grown) (hb.mono (by first | omega | (simp; done) | (simp; omega)))
    clear hb
    go_wp2_with fail
    go_returns
    exact ⟨rfl, D1⟩
  | false =>
    clear hz
    go_enter Try.func50, Try.ntmps50
    go_wp2_with fail
    refine (eInside_any a b c d s t u v _).mono ?_
    rw [HI.out]
    rintro e w1 ⟨rfl, hb⟩
    have D1 : Below w.heap.size w w1 := Below.trans (by go_grown) (hb.mono (by first | omega | (simp; done) | (simp; omega)))
    clear hb
    go_wp2_with fail
    go_returns
    exact ⟨rfl, D1⟩

set_option maxRecDepth 100000 in
set_option maxHeartbeats 2000000 in
theorem widerL_any (a b c d k0 k1 k2 k3 : Int) (w : World) (h0 : 0 ≤ k0 ∧ k0 ≤ 65535) (h1 : 0 ≤ k1 ∧ k1 ≤ 65535) (h2 : 0 ≤ k2 ∧ k2 ≤ 65535) (h3 : 0 ≤ k3 ∧ k3 ≤ 65535) :
    Calls Try.prog 49 #[.agg #[.int .i64 a, .int .i64 b, .int .i64 c, .int .i64 d], .agg #[.int .u16 k0, .int .u16 k1, .int .u16 k2, .int .u16 k3]] w fun e w' => e = .returned (.agg #[.int .i64 (wrap64 (a - k0)), .int .i64 (wrap64 (b + k1)), .int .i64 (wrap64 (c - k2)), .int .i64 (wrap64 (d + k3))]) ∧ Below w.heap.size w w' := by
  have w0 : wrap64 k0 = k0 := by simp only [wrap64]; omega
  have w1 : wrap64 k1 = k1 := by simp only [wrap64]; omega
  have w2 : wrap64 k2 = k2 := by simp only [wrap64]; omega
  have w3 : wrap64 k3 = k3 := by simp only [wrap64]; omega
  clear h0 h1 h2 h3
  obtain ⟨p0, hp0⟩ : ∃ p, wrap64 (a - k0) = p := ⟨_, rfl⟩
  obtain ⟨p1, hp1⟩ : ∃ p, wrap64 (b + k1) = p := ⟨_, rfl⟩
  obtain ⟨p2, hp2⟩ : ∃ p, wrap64 (c - k2) = p := ⟨_, rfl⟩
  obtain ⟨p3, hp3⟩ : ∃ p, wrap64 (d + k3) = p := ⟨_, rfl⟩
  rw [hp0, hp1, hp2, hp3]
  go_enter Try.func49, Try.ntmps49
  go_wp2_with fail
  refine bodyPost_ret (v := .agg #[.int .i64 p0, .int .i64 p1, .int .i64 p2, .int .i64 p3]) (by simp [results, Try.results49, go_sem, *]) rfl ⟨rfl, by go_grown⟩
end Go.Proofs.Ytgbnpnenejgnnaa
