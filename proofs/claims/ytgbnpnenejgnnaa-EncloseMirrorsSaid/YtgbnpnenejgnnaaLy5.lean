import Derived.Test.YtgbnpnenejgnnaaSt5
import Derived.Test.YtgbnpnenejgnnaaMz5
import Derived.Test.YtgbnpnenejgnnaaPu5
import Derived.Test.YtgbnpnenejgnnaaAw5
namespace Encl
theorem okP_mir {p q r s : Rc} (h : okP p q r s = true) : okP s r q p = true := by
  obtain ⟨a, b, c, d⟩ := okP_iff.1 h
  exact okP_iff.2 ⟨d, c, b, a⟩
theorem ne0_starR (p q : Po) : Ne0 (starR p q) := by
  unfold starR starD starT starH
  exact ne0_bind (ne0_bind (ne0_mulR _ _) fun _ _ => ne0_subR _ _) fun _ _ => ne0_bind (ne0_bind (ne0_mulR _ _) fun _ _ => ne0_bind (ne0_mulR _ _) fun _ _ => ne0_bind (ne0_divR _ _) fun _ _ => ne0_addR _ _) fun _ _ => ne0_bind (ne0_bind (ne0_mulR _ _) fun _ _ => ne0_divR _ _) fun _ _ => ne0_bind (ne0_bind (ne0_mulR _ _) fun _ _ => ne0_divR _ _) fun _ _ => ne0_bind (ne0_bind (ne0_mulR _ _) fun _ _ => ne0_bind (ne0_mulR _ _) fun _ _ => ne0_bind (ne0_divR _ _) fun _ _ => ne0_addR _ _) fun _ _ => ne0_ok _
theorem ne0_staO (p q : Po) : Ne0 (staO p q) := by
  unfold staO
  split
  · split
    · exact ne0_starR p q
    · intro k h; have := Out.bad.inj h; omega
  · intro k h; have := Out.bad.inj h; omega
theorem ne0_mirO (p q r s : Rc) : Ne0 (mirO p q r s) := by
  unfold mirO
  split
  · exact ne0_ok _
  · intro k h; have := Out.bad.inj h; omega
end Encl
namespace Go.Proofs.Ytgbnpnenejgnnaa
open Go.RowKit Encl
theorem OutO_zero {o : Out Po} (hn : Ne0 o) {v : Array Value} (h : OutO o = .returned (.tuple #[.agg v, .int .i64 0])) : ∃ x, o = .ok x := by
  cases o with
  | ok x => exact ⟨x, rfl⟩
  | bad k =>
    exfalso
    have h2 : OutO (.bad k : Out Po) = .returned (.tuple #[.agg #[.int .i64 0, .int .i64 0, .int .i64 0, .int .i64 0, .int .i64 0, .int .i64 0, .int .i64 0, .int .i64 0, .int .i64 0, .int .i64 0, .int .i64 0, .int .i64 0, .int .i64 0, .int .i64 0, .int .i64 0, .int .i64 0], .int .i64 k]) := rfl
    rw [h2] at h
    have h3 := Ending.returned.inj h
    simp at h3
    exact hn k rfl h3.2
theorem OutO_ok_inj {x : Po} {z0 z1 z2 z3 z4 z5 z6 z7 z8 z9 z10 z11 z12 z13 z14 z15 er : Int} (h : OutO (.ok x) = .returned (.tuple #[.agg #[.int .i64 z0, .int .i64 z1, .int .i64 z2, .int .i64 z3, .int .i64 z4, .int .i64 z5, .int .i64 z6, .int .i64 z7, .int .i64 z8, .int .i64 z9, .int .i64 z10, .int .i64 z11, .int .i64 z12, .int .i64 z13, .int .i64 z14, .int .i64 z15], .int .i64 er])) : x = ⟨⟨⟨z0, z1⟩, ⟨z2, z3⟩⟩, ⟨⟨z4, z5⟩, ⟨z6, z7⟩⟩, ⟨⟨z8, z9⟩, ⟨z10, z11⟩⟩, ⟨⟨z12, z13⟩, ⟨z14, z15⟩⟩⟩ := by
  obtain ⟨⟨⟨a0, b0⟩, ⟨c0, d0⟩⟩, ⟨⟨a1, b1⟩, ⟨c1, d1⟩⟩, ⟨⟨a2, b2⟩, ⟨c2, d2⟩⟩, ⟨⟨a3, b3⟩, ⟨c3, d3⟩⟩⟩ := x
  have h3 := Ending.returned.inj h
  simp at h3
  obtain ⟨⟨rfl, rfl, rfl, rfl, rfl, rfl, rfl, rfl, rfl, rfl, rfl, rfl, rfl, rfl, rfl, rfl⟩, _⟩ := h3
  rfl
theorem mirrors_fin {a0 b0 c0 d0 a1 b1 c1 d1 a2 b2 c2 d2 a3 b3 c3 d3 e0 f0 g0 h0 e1 f1 g1 h1 e2 f2 g2 h2 e3 f3 g3 h3 m0 m1 m2 m3 m4 m5 m6 m7 m8 m9 m10 m11 m12 m13 m14 m15 j0 j1 j2 j3 j4 j5 j6 j7 j8 j9 j10 j11 j12 j13 j14 j15 t0 t1 t2 t3 t4 t5 t6 t7 t8 t9 t10 t11 t12 t13 t14 t15 : Int} (hp : okP ⟨⟨a0, b0⟩, ⟨c0, d0⟩⟩ ⟨⟨a1, b1⟩, ⟨c1, d1⟩⟩ ⟨⟨a2, b2⟩, ⟨c2, d2⟩⟩ ⟨⟨a3, b3⟩, ⟨c3, d3⟩⟩ = true)
    (hb : OutO (mirO ⟨⟨e0, f0⟩, ⟨g0, h0⟩⟩ ⟨⟨e1, f1⟩, ⟨g1, h1⟩⟩ ⟨⟨e2, f2⟩, ⟨g2, h2⟩⟩ ⟨⟨e3, f3⟩, ⟨g3, h3⟩⟩) = .returned (.tuple #[.agg #[.int .i64 m0, .int .i64 m1, .int .i64 m2, .int .i64 m3, .int .i64 m4, .int .i64 m5, .int .i64 m6, .int .i64 m7, .int .i64 m8, .int .i64 m9, .int .i64 m10, .int .i64 m11, .int .i64 m12, .int .i64 m13, .int .i64 m14, .int .i64 m15], .int .i64 0])) (hj : OutO (staO ⟨⟨⟨a0, b0⟩, ⟨c0, d0⟩⟩, ⟨⟨a1, b1⟩, ⟨c1, d1⟩⟩, ⟨⟨a2, b2⟩, ⟨c2, d2⟩⟩, ⟨⟨a3, b3⟩, ⟨c3, d3⟩⟩⟩ ⟨⟨⟨e0, f0⟩, ⟨g0, h0⟩⟩, ⟨⟨e1, f1⟩, ⟨g1, h1⟩⟩, ⟨⟨e2, f2⟩, ⟨g2, h2⟩⟩, ⟨⟨e3, f3⟩, ⟨g3, h3⟩⟩⟩) = .returned (.tuple #[.agg #[.int .i64 j0, .int .i64 j1, .int .i64 j2, .int .i64 j3, .int .i64 j4, .int .i64 j5, .int .i64 j6, .int .i64 j7, .int .i64 j8, .int .i64 j9, .int .i64 j10, .int .i64 j11, .int .i64 j12, .int .i64 j13, .int .i64 j14, .int .i64 j15], .int .i64 0])) (ht : OutO (staO ⟨⟨⟨m0, m1⟩, ⟨m2, m3⟩⟩, ⟨⟨m4, m5⟩, ⟨m6, m7⟩⟩, ⟨⟨m8, m9⟩, ⟨m10, m11⟩⟩, ⟨⟨m12, m13⟩, ⟨m14, m15⟩⟩⟩ ⟨⟨⟨a3, b3⟩, ⟨c3, d3⟩⟩, ⟨⟨a2, b2⟩, ⟨c2, d2⟩⟩, ⟨⟨a1, b1⟩, ⟨c1, d1⟩⟩, ⟨⟨a0, b0⟩, ⟨c0, d0⟩⟩⟩) = .returned (.tuple #[.agg #[.int .i64 t0, .int .i64 t1, .int .i64 t2, .int .i64 t3, .int .i64 t4, .int .i64 t5, .int .i64 t6, .int .i64 t7, .int .i64 t8, .int .i64 t9, .int .i64 t10, .int .i64 t11, .int .i64 t12, .int .i64 t13, .int .i64 t14, .int .i64 t15], .int .i64 0])) :
    okP ⟨⟨j0, j1⟩, ⟨j2, j3⟩⟩ ⟨⟨j4, j5⟩, ⟨j6, j7⟩⟩ ⟨⟨j8, j9⟩, ⟨j10, j11⟩⟩ ⟨⟨j12, j13⟩, ⟨j14, j15⟩⟩ = true ∧ OutO (mirO ⟨⟨t0, t1⟩, ⟨t2, t3⟩⟩ ⟨⟨t4, t5⟩, ⟨t6, t7⟩⟩ ⟨⟨t8, t9⟩, ⟨t10, t11⟩⟩ ⟨⟨t12, t13⟩, ⟨t14, t15⟩⟩) = .returned (.tuple #[.agg #[.int .i64 j0, .int .i64 j1, .int .i64 j2, .int .i64 j3, .int .i64 j4, .int .i64 j5, .int .i64 j6, .int .i64 j7, .int .i64 j8, .int .i64 j9, .int .i64 j10, .int .i64 j11, .int .i64 j12, .int .i64 j13, .int .i64 j14, .int .i64 j15], .int .i64 0]) := by
  obtain ⟨xb, hxb⟩ := OutO_zero (ne0_mirO _ _ _ _) hb
  obtain ⟨xj, hxj⟩ := OutO_zero (ne0_staO _ _) hj
  obtain ⟨xt, hxt⟩ := OutO_zero (ne0_staO _ _) ht
  have hq : okP ⟨⟨e0, f0⟩, ⟨g0, h0⟩⟩ ⟨⟨e1, f1⟩, ⟨g1, h1⟩⟩ ⟨⟨e2, f2⟩, ⟨g2, h2⟩⟩ ⟨⟨e3, f3⟩, ⟨g3, h3⟩⟩ = true := by
    apply Classical.byContradiction
    intro hn
    unfold mirO at hxb
    rw [if_neg hn] at hxb
    cases hxb
  have hb2 : mirO ⟨⟨e0, f0⟩, ⟨g0, h0⟩⟩ ⟨⟨e1, f1⟩, ⟨g1, h1⟩⟩ ⟨⟨e2, f2⟩, ⟨g2, h2⟩⟩ ⟨⟨e3, f3⟩, ⟨g3, h3⟩⟩ = .ok (mirP ⟨⟨⟨e0, f0⟩, ⟨g0, h0⟩⟩, ⟨⟨e1, f1⟩, ⟨g1, h1⟩⟩, ⟨⟨e2, f2⟩, ⟨g2, h2⟩⟩, ⟨⟨e3, f3⟩, ⟨g3, h3⟩⟩⟩) := by unfold mirO; rw [if_pos hq]; rfl
  rw [hxb] at hb
  rw [hxb] at hb2
  have ee1 := OutO_ok_inj hb
  have ee2 := Out.ok.inj hb2
  have ee3 : (⟨⟨⟨m0, m1⟩, ⟨m2, m3⟩⟩, ⟨⟨m4, m5⟩, ⟨m6, m7⟩⟩, ⟨⟨m8, m9⟩, ⟨m10, m11⟩⟩, ⟨⟨m12, m13⟩, ⟨m14, m15⟩⟩⟩ : Po) = mirP ⟨⟨⟨e0, f0⟩, ⟨g0, h0⟩⟩, ⟨⟨e1, f1⟩, ⟨g1, h1⟩⟩, ⟨⟨e2, f2⟩, ⟨g2, h2⟩⟩, ⟨⟨e3, f3⟩, ⟨g3, h3⟩⟩⟩ := ee1.symm.trans ee2
  have hs : staO ⟨⟨⟨a0, b0⟩, ⟨c0, d0⟩⟩, ⟨⟨a1, b1⟩, ⟨c1, d1⟩⟩, ⟨⟨a2, b2⟩, ⟨c2, d2⟩⟩, ⟨⟨a3, b3⟩, ⟨c3, d3⟩⟩⟩ ⟨⟨⟨e0, f0⟩, ⟨g0, h0⟩⟩, ⟨⟨e1, f1⟩, ⟨g1, h1⟩⟩, ⟨⟨e2, f2⟩, ⟨g2, h2⟩⟩, ⟨⟨e3, f3⟩, ⟨g3, h3⟩⟩⟩ = starR ⟨⟨⟨a0, b0⟩, ⟨c0, d0⟩⟩, ⟨⟨a1, b1⟩, ⟨c1, d1⟩⟩, ⟨⟨a2, b2⟩, ⟨c2, d2⟩⟩, ⟨⟨a3, b3⟩, ⟨c3, d3⟩⟩⟩ ⟨⟨⟨e0, f0⟩, ⟨g0, h0⟩⟩, ⟨⟨e1, f1⟩, ⟨g1, h1⟩⟩, ⟨⟨e2, f2⟩, ⟨g2, h2⟩⟩, ⟨⟨e3, f3⟩, ⟨g3, h3⟩⟩⟩ := by unfold staO; rw [if_pos hp]; exact if_pos hq
  rw [hxj] at hj
  have ff1 := OutO_ok_inj hj
  rw [hs] at hxj
  have hs2 : staO (mirP ⟨⟨⟨e0, f0⟩, ⟨g0, h0⟩⟩, ⟨⟨e1, f1⟩, ⟨g1, h1⟩⟩, ⟨⟨e2, f2⟩, ⟨g2, h2⟩⟩, ⟨⟨e3, f3⟩, ⟨g3, h3⟩⟩⟩) (mirP ⟨⟨⟨a0, b0⟩, ⟨c0, d0⟩⟩, ⟨⟨a1, b1⟩, ⟨c1, d1⟩⟩, ⟨⟨a2, b2⟩, ⟨c2, d2⟩⟩, ⟨⟨a3, b3⟩, ⟨c3, d3⟩⟩⟩) = starR (mirP ⟨⟨⟨e0, f0⟩, ⟨g0, h0⟩⟩, ⟨⟨e1, f1⟩, ⟨g1, h1⟩⟩, ⟨⟨e2, f2⟩, ⟨g2, h2⟩⟩, ⟨⟨e3, f3⟩, ⟨g3, h3⟩⟩⟩) (mirP ⟨⟨⟨a0, b0⟩, ⟨c0, d0⟩⟩, ⟨⟨a1, b1⟩, ⟨c1, d1⟩⟩, ⟨⟨a2, b2⟩, ⟨c2, d2⟩⟩, ⟨⟨a3, b3⟩, ⟨c3, d3⟩⟩⟩) := by
    unfold staO
    rw [if_pos (show okP (mirP ⟨⟨⟨e0, f0⟩, ⟨g0, h0⟩⟩, ⟨⟨e1, f1⟩, ⟨g1, h1⟩⟩, ⟨⟨e2, f2⟩, ⟨g2, h2⟩⟩, ⟨⟨e3, f3⟩, ⟨g3, h3⟩⟩⟩).a (mirP ⟨⟨⟨e0, f0⟩, ⟨g0, h0⟩⟩, ⟨⟨e1, f1⟩, ⟨g1, h1⟩⟩, ⟨⟨e2, f2⟩, ⟨g2, h2⟩⟩, ⟨⟨e3, f3⟩, ⟨g3, h3⟩⟩⟩).b (mirP ⟨⟨⟨e0, f0⟩, ⟨g0, h0⟩⟩, ⟨⟨e1, f1⟩, ⟨g1, h1⟩⟩, ⟨⟨e2, f2⟩, ⟨g2, h2⟩⟩, ⟨⟨e3, f3⟩, ⟨g3, h3⟩⟩⟩).c (mirP ⟨⟨⟨e0, f0⟩, ⟨g0, h0⟩⟩, ⟨⟨e1, f1⟩, ⟨g1, h1⟩⟩, ⟨⟨e2, f2⟩, ⟨g2, h2⟩⟩, ⟨⟨e3, f3⟩, ⟨g3, h3⟩⟩⟩).d = true from okP_mir hq)]
    exact if_pos (show okP (mirP ⟨⟨⟨a0, b0⟩, ⟨c0, d0⟩⟩, ⟨⟨a1, b1⟩, ⟨c1, d1⟩⟩, ⟨⟨a2, b2⟩, ⟨c2, d2⟩⟩, ⟨⟨a3, b3⟩, ⟨c3, d3⟩⟩⟩).a (mirP ⟨⟨⟨a0, b0⟩, ⟨c0, d0⟩⟩, ⟨⟨a1, b1⟩, ⟨c1, d1⟩⟩, ⟨⟨a2, b2⟩, ⟨c2, d2⟩⟩, ⟨⟨a3, b3⟩, ⟨c3, d3⟩⟩⟩).b (mirP ⟨⟨⟨a0, b0⟩, ⟨c0, d0⟩⟩, ⟨⟨a1, b1⟩, ⟨c1, d1⟩⟩, ⟨⟨a2, b2⟩, ⟨c2, d2⟩⟩, ⟨⟨a3, b3⟩, ⟨c3, d3⟩⟩⟩).c (mirP ⟨⟨⟨a0, b0⟩, ⟨c0, d0⟩⟩, ⟨⟨a1, b1⟩, ⟨c1, d1⟩⟩, ⟨⟨a2, b2⟩, ⟨c2, d2⟩⟩, ⟨⟨a3, b3⟩, ⟨c3, d3⟩⟩⟩).d = true from okP_mir hp)
  have ht2 : staO ⟨⟨⟨m0, m1⟩, ⟨m2, m3⟩⟩, ⟨⟨m4, m5⟩, ⟨m6, m7⟩⟩, ⟨⟨m8, m9⟩, ⟨m10, m11⟩⟩, ⟨⟨m12, m13⟩, ⟨m14, m15⟩⟩⟩ ⟨⟨⟨a3, b3⟩, ⟨c3, d3⟩⟩, ⟨⟨a2, b2⟩, ⟨c2, d2⟩⟩, ⟨⟨a1, b1⟩, ⟨c1, d1⟩⟩, ⟨⟨a0, b0⟩, ⟨c0, d0⟩⟩⟩ = staO (mirP ⟨⟨⟨e0, f0⟩, ⟨g0, h0⟩⟩, ⟨⟨e1, f1⟩, ⟨g1, h1⟩⟩, ⟨⟨e2, f2⟩, ⟨g2, h2⟩⟩, ⟨⟨e3, f3⟩, ⟨g3, h3⟩⟩⟩) (mirP ⟨⟨⟨a0, b0⟩, ⟨c0, d0⟩⟩, ⟨⟨a1, b1⟩, ⟨c1, d1⟩⟩, ⟨⟨a2, b2⟩, ⟨c2, d2⟩⟩, ⟨⟨a3, b3⟩, ⟨c3, d3⟩⟩⟩) := by rw [ee3]; rfl
  rw [ht2, hs2, star_mir hxj] at hxt
  rw [ht2, hs2, star_mir hxj] at ht
  have gg1 := OutO_ok_inj ht
  have hok := star_ok hxj
  rw [ff1] at hok gg1
  have gg2 := gg1
  simp only [mirP, Po.mk.injEq, Rc.mk.injEq, Sp.mk.injEq] at gg2
  have hokJ : okP ⟨⟨j0, j1⟩, ⟨j2, j3⟩⟩ ⟨⟨j4, j5⟩, ⟨j6, j7⟩⟩ ⟨⟨j8, j9⟩, ⟨j10, j11⟩⟩ ⟨⟨j12, j13⟩, ⟨j14, j15⟩⟩ = true := okP_iff.2 hok
  refine ⟨hokJ, ?_⟩
  obtain ⟨⟨⟨rfl, rfl⟩, rfl, rfl⟩, ⟨⟨rfl, rfl⟩, rfl, rfl⟩, ⟨⟨rfl, rfl⟩, rfl, rfl⟩, ⟨rfl, rfl⟩, rfl, rfl⟩ := gg2
  unfold mirO
  rw [if_pos (okP_mir hokJ)]
  rfl
attribute [local go_sem high] run_eqPort_same run_nePort_same
set_option maxRecDepth 100000 in
set_option maxHeartbeats 16000000 in
theorem EncloseMirrors_no (a0 b0 c0 d0 a1 b1 c1 d1 a2 b2 c2 d2 a3 b3 c3 d3 e0 f0 g0 h0 e1 f1 g1 h1 e2 f2 g2 h2 e3 f3 g3 h3 : Int) (w : World) (hp : okP ⟨⟨a0, b0⟩, ⟨c0, d0⟩⟩ ⟨⟨a1, b1⟩, ⟨c1, d1⟩⟩ ⟨⟨a2, b2⟩, ⟨c2, d2⟩⟩ ⟨⟨a3, b3⟩, ⟨c3, d3⟩⟩ = false) :
    Calls Try.prog 14 #[.agg #[.int .i64 a0, .int .i64 b0, .int .i64 c0, .int .i64 d0, .int .i64 a1, .int .i64 b1, .int .i64 c1, .int .i64 d1, .int .i64 a2, .int .i64 b2, .int .i64 c2, .int .i64 d2, .int .i64 a3, .int .i64 b3, .int .i64 c3, .int .i64 d3], .agg #[.int .i64 e0, .int .i64 f0, .int .i64 g0, .int .i64 h0, .int .i64 e1, .int .i64 f1, .int .i64 g1, .int .i64 h1, .int .i64 e2, .int .i64 f2, .int .i64 g2, .int .i64 h2, .int .i64 e3, .int .i64 f3, .int .i64 g3, .int .i64 h3]] w fun e w' => e = .returned (.bool true) ∧ Below w.heap.size w w' := by
  have HE : Hid (OutO (mirO ⟨⟨a0, b0⟩, ⟨c0, d0⟩⟩ ⟨⟨a1, b1⟩, ⟨c1, d1⟩⟩ ⟨⟨a2, b2⟩, ⟨c2, d2⟩⟩ ⟨⟨a3, b3⟩, ⟨c3, d3⟩⟩) = .returned (.tuple #[.agg #[.int .i64 0, .int .i64 0, .int .i64 0, .int .i64 0, .int .i64 0, .int .i64 0, .int .i64 0, .int .i64 0, .int .i64 0, .int .i64 0, .int .i64 0, .int .i64 0, .int .i64 0, .int .i64 0, .int .i64 0, .int .i64 0], .int .i64 50])) := Lib.hid (by unfold mirO; rw [if_neg (by rw [hp]; decide)]; rfl)
  clear hp
  go_enter Try.func14, Try.ntmps14
  go_upto_region 1 with fail
  have hb0 : Below w.heap.size w ((w.alloc (.cells #[.int .i64 a0, .int .i64 b0, .int .i64 c0, .int .i64 d0, .int .i64 a1, .int .i64 b1, .int .i64 c1, .int .i64 d1, .int .i64 a2, .int .i64 b2, .int .i64 c2, .int .i64 d2, .int .i64 a3, .int .i64 b3, .int .i64 c3, .int .i64 d3] 49)).alloc (.cells #[.int .i64 e0, .int .i64 f0, .int .i64 g0, .int .i64 h0, .int .i64 e1, .int .i64 f1, .int .i64 g1, .int .i64 h1, .int .i64 e2, .int .i64 f2, .int .i64 g2, .int .i64 h2, .int .i64 e3, .int .i64 f3, .int .i64 g3, .int .i64 h3] 49)) := by go_grown
  have hc2 : ((w.alloc (.cells #[.int .i64 a0, .int .i64 b0, .int .i64 c0, .int .i64 d0, .int .i64 a1, .int .i64 b1, .int .i64 c1, .int .i64 d1, .int .i64 a2, .int .i64 b2, .int .i64 c2, .int .i64 d2, .int .i64 a3, .int .i64 b3, .int .i64 c3, .int .i64 d3] 49)).alloc (.cells #[.int .i64 e0, .int .i64 f0, .int .i64 g0, .int .i64 h0, .int .i64 e1, .int .i64 f1, .int .i64 g1, .int .i64 h1, .int .i64 e2, .int .i64 f2, .int .i64 g2, .int .i64 h2, .int .i64 e3, .int .i64 f3, .int .i64 g3, .int .i64 h3] 49)).heap[w.heap.size]? = some (.cells #[.int .i64 a0, .int .i64 b0, .int .i64 c0, .int .i64 d0, .int .i64 a1, .int .i64 b1, .int .i64 c1, .int .i64 d1, .int .i64 a2, .int .i64 b2, .int .i64 c2, .int .i64 d2, .int .i64 a3, .int .i64 b3, .int .i64 c3, .int .i64 d3] 49 (0, 0)) := (Below.heap_alloc _ _ _ (by first | omega | (simp; done) | (simp; omega))).trans ((heap_alloc_new w _))
  have hc3 : ((w.alloc (.cells #[.int .i64 a0, .int .i64 b0, .int .i64 c0, .int .i64 d0, .int .i64 a1, .int .i64 b1, .int .i64 c1, .int .i64 d1, .int .i64 a2, .int .i64 b2, .int .i64 c2, .int .i64 d2, .int .i64 a3, .int .i64 b3, .int .i64 c3, .int .i64 d3] 49)).alloc (.cells #[.int .i64 e0, .int .i64 f0, .int .i64 g0, .int .i64 h0, .int .i64 e1, .int .i64 f1, .int .i64 g1, .int .i64 h1, .int .i64 e2, .int .i64 f2, .int .i64 g2, .int .i64 h2, .int .i64 e3, .int .i64 f3, .int .i64 g3, .int .i64 h3] 49)).heap[w.heap.size + 1]? = some (.cells #[.int .i64 e0, .int .i64 f0, .int .i64 g0, .int .i64 h0, .int .i64 e1, .int .i64 f1, .int .i64 g1, .int .i64 h1, .int .i64 e2, .int .i64 f2, .int .i64 g2, .int .i64 h2, .int .i64 e3, .int .i64 f3, .int .i64 g3, .int .i64 h3] 49 (0, 0)) := (by
      have h := heap_alloc_new (w.alloc (.cells #[.int .i64 a0, .int .i64 b0, .int .i64 c0, .int .i64 d0, .int .i64 a1, .int .i64 b1, .int .i64 c1, .int .i64 d1, .int .i64 a2, .int .i64 b2, .int .i64 c2, .int .i64 d2, .int .i64 a3, .int .i64 b3, .int .i64 c3, .int .i64 d3] 49)) (.cells #[.int .i64 e0, .int .i64 f0, .int .i64 g0, .int .i64 h0, .int .i64 e1, .int .i64 f1, .int .i64 g1, .int .i64 h1, .int .i64 e2, .int .i64 f2, .int .i64 g2, .int .i64 h2, .int .i64 e3, .int .i64 f3, .int .i64 g3, .int .i64 h3] 49)
      rwa [World.size_alloc] at h)
  have hsz : w.heap.size + 2 ≤ ((w.alloc (.cells #[.int .i64 a0, .int .i64 b0, .int .i64 c0, .int .i64 d0, .int .i64 a1, .int .i64 b1, .int .i64 c1, .int .i64 d1, .int .i64 a2, .int .i64 b2, .int .i64 c2, .int .i64 d2, .int .i64 a3, .int .i64 b3, .int .i64 c3, .int .i64 d3] 49)).alloc (.cells #[.int .i64 e0, .int .i64 f0, .int .i64 g0, .int .i64 h0, .int .i64 e1, .int .i64 f1, .int .i64 g1, .int .i64 h1, .int .i64 e2, .int .i64 f2, .int .i64 g2, .int .i64 h2, .int .i64 e3, .int .i64 f3, .int .i64 g3, .int .i64 h3] 49)).heap.size := by simp
  generalize ((w.alloc (.cells #[.int .i64 a0, .int .i64 b0, .int .i64 c0, .int .i64 d0, .int .i64 a1, .int .i64 b1, .int .i64 c1, .int .i64 d1, .int .i64 a2, .int .i64 b2, .int .i64 c2, .int .i64 d2, .int .i64 a3, .int .i64 b3, .int .i64 c3, .int .i64 d3] 49)).alloc (.cells #[.int .i64 e0, .int .i64 f0, .int .i64 g0, .int .i64 h0, .int .i64 e1, .int .i64 f1, .int .i64 g1, .int .i64 h1, .int .i64 e2, .int .i64 f2, .int .i64 g2, .int .i64 h2, .int .i64 e3, .int .i64 f3, .int .i64 g3, .int .i64 h3] 49)) = W0 at *
  have HD0 := Lib.hid hb0
  have Hb2_0 := Lib.hid hc2
  have lb2_0 : w.heap.size < W0.heap.size := by omega
  have Hb3_0 := Lib.hid hc3
  have lb3_0 : w.heap.size + 1 < W0.heap.size := by omega
  have lw0 : w.heap.size ≤ W0.heap.size := by omega
  clear hb0 hsz hc2 hc3
  refine wp_region_lit ?_
  refine wpList_load_mid rfl 49 (.tmp 2) rfl (w.heap.size) 0 rfl [.int .i64 a0, .int .i64 b0, .int .i64 c0, .int .i64 d0, .int .i64 a1, .int .i64 b1, .int .i64 c1, .int .i64 d1, .int .i64 a2, .int .i64 b2, .int .i64 c2, .int .i64 d2, .int .i64 a3, .int .i64 b3, .int .i64 c3, .int .i64 d3] _ (range_row Hb2_0.out 0 [.int .i64 a0, .int .i64 b0, .int .i64 c0, .int .i64 d0, .int .i64 a1, .int .i64 b1, .int .i64 c1, .int .i64 d1, .int .i64 a2, .int .i64 b2, .int .i64 c2, .int .i64 d2, .int .i64 a3, .int .i64 b3, .int .i64 c3, .int .i64 d3] (fun j hj => by simp only [Nat.zero_add, List.getElem?_toArray])) Try.underlying49 rfl (by kernel_rfl) ?_
  refine wpList_step (fun K hK => ?_)
  go_simp
  refine (eMirror_any a0 b0 c0 d0 a1 b1 c1 d1 a2 b2 c2 d2 a3 b3 c3 d3 _).mono ?_
  rw [HE.out]
  rintro e u1_ ⟨rfl, hb⟩
  have HD1 := Lib.hid (HD0.out.trans (hb.mono lw0))
  have lw1 : w.heap.size ≤ u1_.heap.size := Nat.le_trans lw0 hb.size
  have Hb2_1 := Lib.hid ((hb.block _ lb2_0).trans Hb2_0.out)
  have lb2_1 : w.heap.size < u1_.heap.size := Nat.lt_of_lt_of_le lb2_0 hb.size
  have Hb3_1 := Lib.hid ((hb.block _ lb3_0).trans Hb3_0.out)
  have lb3_1 : w.heap.size + 1 < u1_.heap.size := Nat.lt_of_lt_of_le lb3_0 hb.size
  clear hb HD0 lw0 Hb2_0 lb2_0 Hb3_0 lb3_0
  refine hK _ _ ?_
  clear hK K
  refine wpList_step (fun K hK => ?_); go_simp; refine hK _ _ ?_; clear hK K
  refine wpList_step (fun K hK => ?_); go_simp; refine hK _ _ ?_; clear hK K
  refine wpList_step (fun K hK => ?_); go_simp; refine hK _ _ ?_; clear hK K
  refine wpList_step (fun K hK => ?_); go_simp; refine hK _ _ ?_; clear hK K
  have HTH := Lib.hid (there_mid (heap_alloc_new u1_ (.cells #[.int .i64 0, .int .i64 0, .int .i64 0, .int .i64 0, .int .i64 0, .int .i64 0, .int .i64 0, .int .i64 0, .int .i64 0, .int .i64 0, .int .i64 0, .int .i64 0, .int .i64 0, .int .i64 0, .int .i64 0, .int .i64 0] 49)) 0 16 (show 0 + 16 ≤ 16 by decide))
  refine wpList_store_mid rfl 49 (.tmp 5) (.tmp 22) rfl u1_.heap.size 0 #[.int .i64 0, .int .i64 0, .int .i64 0, .int .i64 0, .int .i64 0, .int .i64 0, .int .i64 0, .int .i64 0, .int .i64 0, .int .i64 0, .int .i64 0, .int .i64 0, .int .i64 0, .int .i64 0, .int .i64 0, .int .i64 0] rfl rfl HTH.out (by kernel_rfl) (by simp [Value.oneCell']) ?_
  (try rw [show (#[.int .i64 0, .int .i64 0, .int .i64 0, .int .i64 0, .int .i64 0, .int .i64 0, .int .i64 0, .int .i64 0, .int .i64 0, .int .i64 0, .int .i64 0, .int .i64 0, .int .i64 0, .int .i64 0, .int .i64 0, .int .i64 0] : Array Value).toList = [.int .i64 0, .int .i64 0, .int .i64 0, .int .i64 0, .int .i64 0, .int .i64 0, .int .i64 0, .int .i64 0, .int .i64 0, .int .i64 0, .int .i64 0, .int .i64 0, .int .i64 0, .int .i64 0, .int .i64 0, .int .i64 0] from rfl])
  have hba : Below u1_.heap.size u1_ (u1_.alloc (.cells #[.int .i64 0, .int .i64 0, .int .i64 0, .int .i64 0, .int .i64 0, .int .i64 0, .int .i64 0, .int .i64 0, .int .i64 0, .int .i64 0, .int .i64 0, .int .i64 0, .int .i64 0, .int .i64 0, .int .i64 0, .int .i64 0] 49)) := bal (Below.refl _ _) _
  have hb : Below u1_.heap.size u1_ ((u1_.alloc (.cells #[.int .i64 0, .int .i64 0, .int .i64 0, .int .i64 0, .int .i64 0, .int .i64 0, .int .i64 0, .int .i64 0, .int .i64 0, .int .i64 0, .int .i64 0, .int .i64 0, .int .i64 0, .int .i64 0, .int .i64 0, .int .i64 0] 49)).setCells u1_.heap.size 0 [.int .i64 0, .int .i64 0, .int .i64 0, .int .i64 0, .int .i64 0, .int .i64 0, .int .i64 0, .int .i64 0, .int .i64 0, .int .i64 0, .int .i64 0, .int .i64 0, .int .i64 0, .int .i64 0, .int .i64 0, .int .i64 0]) := below_mids (Nat.le_refl _) _ _ hba
  have hnb : ((u1_.alloc (.cells #[.int .i64 0, .int .i64 0, .int .i64 0, .int .i64 0, .int .i64 0, .int .i64 0, .int .i64 0, .int .i64 0, .int .i64 0, .int .i64 0, .int .i64 0, .int .i64 0, .int .i64 0, .int .i64 0, .int .i64 0, .int .i64 0] 49)).setCells u1_.heap.size 0 [.int .i64 0, .int .i64 0, .int .i64 0, .int .i64 0, .int .i64 0, .int .i64 0, .int .i64 0, .int .i64 0, .int .i64 0, .int .i64 0, .int .i64 0, .int .i64 0, .int .i64 0, .int .i64 0, .int .i64 0, .int .i64 0]).heap[u1_.heap.size]? = some (.cells #[.int .i64 0, .int .i64 0, .int .i64 0, .int .i64 0, .int .i64 0, .int .i64 0, .int .i64 0, .int .i64 0, .int .i64 0, .int .i64 0, .int .i64 0, .int .i64 0, .int .i64 0, .int .i64 0, .int .i64 0, .int .i64 0] 49 (0, 0)) := block_whole [.int .i64 0, .int .i64 0, .int .i64 0, .int .i64 0, .int .i64 0, .int .i64 0, .int .i64 0, .int .i64 0, .int .i64 0, .int .i64 0, .int .i64 0, .int .i64 0, .int .i64 0, .int .i64 0, .int .i64 0, .int .i64 0] (heap_alloc_new u1_ (.cells #[.int .i64 0, .int .i64 0, .int .i64 0, .int .i64 0, .int .i64 0, .int .i64 0, .int .i64 0, .int .i64 0, .int .i64 0, .int .i64 0, .int .i64 0, .int .i64 0, .int .i64 0, .int .i64 0, .int .i64 0, .int .i64 0] 49)) rfl
  have hlb : u1_.heap.size < ((u1_.alloc (.cells #[.int .i64 0, .int .i64 0, .int .i64 0, .int .i64 0, .int .i64 0, .int .i64 0, .int .i64 0, .int .i64 0, .int .i64 0, .int .i64 0, .int .i64 0, .int .i64 0, .int .i64 0, .int .i64 0, .int .i64 0, .int .i64 0] 49)).setCells u1_.heap.size 0 [.int .i64 0, .int .i64 0, .int .i64 0, .int .i64 0, .int .i64 0, .int .i64 0, .int .i64 0, .int .i64 0, .int .i64 0, .int .i64 0, .int .i64 0, .int .i64 0, .int .i64 0, .int .i64 0, .int .i64 0, .int .i64 0]).heap.size := (Array.getElem?_eq_some_iff.1 hnb).1
  have HD2 := Lib.hid (HD1.out.trans (hb.mono lw1))
  have lw2 : w.heap.size ≤ ((u1_.alloc (.cells #[.int .i64 0, .int .i64 0, .int .i64 0, .int .i64 0, .int .i64 0, .int .i64 0, .int .i64 0, .int .i64 0, .int .i64 0, .int .i64 0, .int .i64 0, .int .i64 0, .int .i64 0, .int .i64 0, .int .i64 0, .int .i64 0] 49)).setCells u1_.heap.size 0 [.int .i64 0, .int .i64 0, .int .i64 0, .int .i64 0, .int .i64 0, .int .i64 0, .int .i64 0, .int .i64 0, .int .i64 0, .int .i64 0, .int .i64 0, .int .i64 0, .int .i64 0, .int .i64 0, .int .i64 0, .int .i64 0]).heap.size := Nat.le_trans lw1 hb.size
  have Hb2_2 := Lib.hid ((hb.block _ lb2_1).trans Hb2_1.out)
  have lb2_2 : w.heap.size < ((u1_.alloc (.cells #[.int .i64 0, .int .i64 0, .int .i64 0, .int .i64 0, .int .i64 0, .int .i64 0, .int .i64 0, .int .i64 0, .int .i64 0, .int .i64 0, .int .i64 0, .int .i64 0, .int .i64 0, .int .i64 0, .int .i64 0, .int .i64 0] 49)).setCells u1_.heap.size 0 [.int .i64 0, .int .i64 0, .int .i64 0, .int .i64 0, .int .i64 0, .int .i64 0, .int .i64 0, .int .i64 0, .int .i64 0, .int .i64 0, .int .i64 0, .int .i64 0, .int .i64 0, .int .i64 0, .int .i64 0, .int .i64 0]).heap.size := Nat.lt_of_lt_of_le lb2_1 hb.size
  have Hb3_2 := Lib.hid ((hb.block _ lb3_1).trans Hb3_1.out)
  have lb3_2 : w.heap.size + 1 < ((u1_.alloc (.cells #[.int .i64 0, .int .i64 0, .int .i64 0, .int .i64 0, .int .i64 0, .int .i64 0, .int .i64 0, .int .i64 0, .int .i64 0, .int .i64 0, .int .i64 0, .int .i64 0, .int .i64 0, .int .i64 0, .int .i64 0, .int .i64 0] 49)).setCells u1_.heap.size 0 [.int .i64 0, .int .i64 0, .int .i64 0, .int .i64 0, .int .i64 0, .int .i64 0, .int .i64 0, .int .i64 0, .int .i64 0, .int .i64 0, .int .i64 0, .int .i64 0, .int .i64 0, .int .i64 0, .int .i64 0, .int .i64 0]).heap.size := Nat.lt_of_lt_of_le lb3_1 hb.size
  have Hb5_2 := Lib.hid hnb
  have lb5_2 := hlb
  clear hb hba hnb hlb HTH HD1 lw1 Hb2_1 lb2_1 Hb3_1 lb3_1
  generalize ((u1_.alloc (.cells #[.int .i64 0, .int .i64 0, .int .i64 0, .int .i64 0, .int .i64 0, .int .i64 0, .int .i64 0, .int .i64 0, .int .i64 0, .int .i64 0, .int .i64 0, .int .i64 0, .int .i64 0, .int .i64 0, .int .i64 0, .int .i64 0] 49)).setCells u1_.heap.size 0 [.int .i64 0, .int .i64 0, .int .i64 0, .int .i64 0, .int .i64 0, .int .i64 0, .int .i64 0, .int .i64 0, .int .i64 0, .int .i64 0, .int .i64 0, .int .i64 0, .int .i64 0, .int .i64 0, .int .i64 0, .int .i64 0]) = U2 at *
  generalize u1_.heap.size = BB2 at *
  refine wpList_step (fun K hK => ?_); go_simp; refine hK _ _ ?_; clear hK K
  refine wpList_nil ?_
  go_upto_region 3 with fail
  refine wp_region_lit ?_
  refine wpList_load_mid rfl 49 (.tmp 5) rfl (BB2) 0 rfl [.int .i64 0, .int .i64 0, .int .i64 0, .int .i64 0, .int .i64 0, .int .i64 0, .int .i64 0, .int .i64 0, .int .i64 0, .int .i64 0, .int .i64 0, .int .i64 0, .int .i64 0, .int .i64 0, .int .i64 0, .int .i64 0] _ (range_row Hb5_2.out 0 [.int .i64 0, .int .i64 0, .int .i64 0, .int .i64 0, .int .i64 0, .int .i64 0, .int .i64 0, .int .i64 0, .int .i64 0, .int .i64 0, .int .i64 0, .int .i64 0, .int .i64 0, .int .i64 0, .int .i64 0, .int .i64 0] (fun j hj => by simp only [Nat.zero_add, List.getElem?_toArray])) Try.underlying49 rfl (by kernel_rfl) ?_
  refine wpList_step (fun K hK => ?_); go_simp; refine hK _ _ ?_; clear hK K
  refine wpList_step (fun K hK => ?_); go_simp; refine hK _ _ ?_; clear hK K
  refine wpList_step (fun K hK => ?_); go_simp; refine hK _ _ ?_; clear hK K
  refine wpList_step (fun K hK => ?_)
  go_simp
  refine (eawake_any _).mono ?_
  rintro e u3_ ⟨rfl, hb⟩
  have HD3 := Lib.hid (HD2.out.trans (hb.mono lw2))
  have lw3 : w.heap.size ≤ u3_.heap.size := Nat.le_trans lw2 hb.size
  have Hb2_3 := Lib.hid ((hb.block _ lb2_2).trans Hb2_2.out)
  have lb2_3 : w.heap.size < u3_.heap.size := Nat.lt_of_lt_of_le lb2_2 hb.size
  have Hb3_3 := Lib.hid ((hb.block _ lb3_2).trans Hb3_2.out)
  have lb3_3 : w.heap.size + 1 < u3_.heap.size := Nat.lt_of_lt_of_le lb3_2 hb.size
  have Hb5_3 := Lib.hid ((hb.block _ lb5_2).trans Hb5_2.out)
  have lb5_3 : BB2 < u3_.heap.size := Nat.lt_of_lt_of_le lb5_2 hb.size
  clear hb HD2 lw2 Hb2_2 lb2_2 Hb3_2 lb3_2 Hb5_2 lb5_2
  refine hK _ _ ?_
  clear hK K
  refine wpList_step (fun K hK => ?_); go_simp; refine hK _ _ ?_; clear hK K
  refine wpList_step (fun K hK => ?_); go_simp; refine hK _ _ ?_; clear hK K
  refine wpList_nil ?_
  refine (‹∀ (a : Act) (w : World), Code.wp Try.prog Code.ret _ a w → _› _ _ ?_)
  apply wp_ret
  (try unfold Exit.then)
  (try dsimp only)
  (try simp only [act_all])
  refine bodyPost_ret (v := .bool true) (by simp [results, Try.results14, go_sem]) rfl ⟨rfl, HD3.out⟩
set_option maxRecDepth 100000 in
set_option maxHeartbeats 16000000 in
theorem EncloseMirrors_ok (a0 b0 c0 d0 a1 b1 c1 d1 a2 b2 c2 d2 a3 b3 c3 d3 e0 f0 g0 h0 e1 f1 g1 h1 e2 f2 g2 h2 e3 f3 g3 h3 : Int) (w : World) (hp : okP ⟨⟨a0, b0⟩, ⟨c0, d0⟩⟩ ⟨⟨a1, b1⟩, ⟨c1, d1⟩⟩ ⟨⟨a2, b2⟩, ⟨c2, d2⟩⟩ ⟨⟨a3, b3⟩, ⟨c3, d3⟩⟩ = true) :
    Calls Try.prog 14 #[.agg #[.int .i64 a0, .int .i64 b0, .int .i64 c0, .int .i64 d0, .int .i64 a1, .int .i64 b1, .int .i64 c1, .int .i64 d1, .int .i64 a2, .int .i64 b2, .int .i64 c2, .int .i64 d2, .int .i64 a3, .int .i64 b3, .int .i64 c3, .int .i64 d3], .agg #[.int .i64 e0, .int .i64 f0, .int .i64 g0, .int .i64 h0, .int .i64 e1, .int .i64 f1, .int .i64 g1, .int .i64 h1, .int .i64 e2, .int .i64 f2, .int .i64 g2, .int .i64 h2, .int .i64 e3, .int .i64 f3, .int .i64 g3, .int .i64 h3]] w fun e w' => e = .returned (.bool true) ∧ Below w.heap.size w w' := by
  have HE : Hid (OutO (mirO ⟨⟨a0, b0⟩, ⟨c0, d0⟩⟩ ⟨⟨a1, b1⟩, ⟨c1, d1⟩⟩ ⟨⟨a2, b2⟩, ⟨c2, d2⟩⟩ ⟨⟨a3, b3⟩, ⟨c3, d3⟩⟩) = .returned (.tuple #[.agg #[.int .i64 a3, .int .i64 b3, .int .i64 c3, .int .i64 d3, .int .i64 a2, .int .i64 b2, .int .i64 c2, .int .i64 d2, .int .i64 a1, .int .i64 b1, .int .i64 c1, .int .i64 d1, .int .i64 a0, .int .i64 b0, .int .i64 c0, .int .i64 d0], .int .i64 0])) := Lib.hid (by unfold mirO; rw [if_pos hp]; rfl)
  have HB : Hid (OutO (mirO ⟨⟨a3, b3⟩, ⟨c3, d3⟩⟩ ⟨⟨a2, b2⟩, ⟨c2, d2⟩⟩ ⟨⟨a1, b1⟩, ⟨c1, d1⟩⟩ ⟨⟨a0, b0⟩, ⟨c0, d0⟩⟩) = .returned (.tuple #[.agg #[.int .i64 a0, .int .i64 b0, .int .i64 c0, .int .i64 d0, .int .i64 a1, .int .i64 b1, .int .i64 c1, .int .i64 d1, .int .i64 a2, .int .i64 b2, .int .i64 c2, .int .i64 d2, .int .i64 a3, .int .i64 b3, .int .i64 c3, .int .i64 d3], .int .i64 0])) := Lib.hid (by unfold mirO; rw [if_pos (okP_mir hp)]; rfl)
  have HS : Hid (OutO (staO ⟨⟨⟨a0, b0⟩, ⟨c0, d0⟩⟩, ⟨⟨a1, b1⟩, ⟨c1, d1⟩⟩, ⟨⟨a2, b2⟩, ⟨c2, d2⟩⟩, ⟨⟨a3, b3⟩, ⟨c3, d3⟩⟩⟩ ⟨R0, one1, one1, R0⟩) = .returned (.tuple #[.agg #[.int .i64 a0, .int .i64 b0, .int .i64 c0, .int .i64 d0, .int .i64 a1, .int .i64 b1, .int .i64 c1, .int .i64 d1, .int .i64 a2, .int .i64 b2, .int .i64 c2, .int .i64 d2, .int .i64 a3, .int .i64 b3, .int .i64 c3, .int .i64 d3], .int .i64 0])) := Lib.hid (by
    unfold staO
    rw [if_pos hp, if_pos (by decide), star_one (okP_iff.1 hp)]; rfl)
  obtain ⟨m0, m1, m2, m3, m4, m5, m6, m7, m8, m9, m10, m11, m12, m13, m14, m15, be, hbe⟩ := OutO_form (mirO ⟨⟨e0, f0⟩, ⟨g0, h0⟩⟩ ⟨⟨e1, f1⟩, ⟨g1, h1⟩⟩ ⟨⟨e2, f2⟩, ⟨g2, h2⟩⟩ ⟨⟨e3, f3⟩, ⟨g3, h3⟩⟩)
  obtain ⟨j0, j1, j2, j3, j4, j5, j6, j7, j8, j9, j10, j11, j12, j13, j14, j15, je, hje⟩ := OutO_form (staO ⟨⟨⟨a0, b0⟩, ⟨c0, d0⟩⟩, ⟨⟨a1, b1⟩, ⟨c1, d1⟩⟩, ⟨⟨a2, b2⟩, ⟨c2, d2⟩⟩, ⟨⟨a3, b3⟩, ⟨c3, d3⟩⟩⟩ ⟨⟨⟨e0, f0⟩, ⟨g0, h0⟩⟩, ⟨⟨e1, f1⟩, ⟨g1, h1⟩⟩, ⟨⟨e2, f2⟩, ⟨g2, h2⟩⟩, ⟨⟨e3, f3⟩, ⟨g3, h3⟩⟩⟩)
  obtain ⟨t0, t1, t2, t3, t4, t5, t6, t7, t8, t9, t10, t11, t12, t13, t14, t15, te, hte⟩ := OutO_form (staO ⟨⟨⟨m0, m1⟩, ⟨m2, m3⟩⟩, ⟨⟨m4, m5⟩, ⟨m6, m7⟩⟩, ⟨⟨m8, m9⟩, ⟨m10, m11⟩⟩, ⟨⟨m12, m13⟩, ⟨m14, m15⟩⟩⟩ ⟨⟨⟨a3, b3⟩, ⟨c3, d3⟩⟩, ⟨⟨a2, b2⟩, ⟨c2, d2⟩⟩, ⟨⟨a1, b1⟩, ⟨c1, d1⟩⟩, ⟨⟨a0, b0⟩, ⟨c0, d0⟩⟩⟩)
  have HBE := Lib.hid hbe
  have HJE := Lib.hid hje
  have HTE := Lib.hid hte
  have HPP := Lib.hid hp
  have HI0 := Lib.hid (inside_self (okP_iff.1 hp).1)
  have HI1 := Lib.hid (inside_self (okP_iff.1 hp).2.1)
  have HI2 := Lib.hid (inside_self (okP_iff.1 hp).2.2.1)
  have HI3 := Lib.hid (inside_self (okP_iff.1 hp).2.2.2)
  clear hbe hje hte hp
  have hwr1 : IntKind.i64.wrap 1 = 1 := by decide
  have hwr0 : IntKind.i64.wrap 0 = 0 := by decide
  go_enter Try.func14, Try.ntmps14
  go_upto_region 1 with fail
  have hb0 : Below w.heap.size w ((w.alloc (.cells #[.int .i64 a0, .int .i64 b0, .int .i64 c0, .int .i64 d0, .int .i64 a1, .int .i64 b1, .int .i64 c1, .int .i64 d1, .int .i64 a2, .int .i64 b2, .int .i64 c2, .int .i64 d2, .int .i64 a3, .int .i64 b3, .int .i64 c3, .int .i64 d3] 49)).alloc (.cells #[.int .i64 e0, .int .i64 f0, .int .i64 g0, .int .i64 h0, .int .i64 e1, .int .i64 f1, .int .i64 g1, .int .i64 h1, .int .i64 e2, .int .i64 f2, .int .i64 g2, .int .i64 h2, .int .i64 e3, .int .i64 f3, .int .i64 g3, .int .i64 h3] 49)) := by go_grown
  have hc2 : ((w.alloc (.cells #[.int .i64 a0, .int .i64 b0, .int .i64 c0, .int .i64 d0, .int .i64 a1, .int .i64 b1, .int .i64 c1, .int .i64 d1, .int .i64 a2, .int .i64 b2, .int .i64 c2, .int .i64 d2, .int .i64 a3, .int .i64 b3, .int .i64 c3, .int .i64 d3] 49)).alloc (.cells #[.int .i64 e0, .int .i64 f0, .int .i64 g0, .int .i64 h0, .int .i64 e1, .int .i64 f1, .int .i64 g1, .int .i64 h1, .int .i64 e2, .int .i64 f2, .int .i64 g2, .int .i64 h2, .int .i64 e3, .int .i64 f3, .int .i64 g3, .int .i64 h3] 49)).heap[w.heap.size]? = some (.cells #[.int .i64 a0, .int .i64 b0, .int .i64 c0, .int .i64 d0, .int .i64 a1, .int .i64 b1, .int .i64 c1, .int .i64 d1, .int .i64 a2, .int .i64 b2, .int .i64 c2, .int .i64 d2, .int .i64 a3, .int .i64 b3, .int .i64 c3, .int .i64 d3] 49 (0, 0)) := (Below.heap_alloc _ _ _ (by first | omega | (simp; done) | (simp; omega))).trans ((heap_alloc_new w _))
  have hc3 : ((w.alloc (.cells #[.int .i64 a0, .int .i64 b0, .int .i64 c0, .int .i64 d0, .int .i64 a1, .int .i64 b1, .int .i64 c1, .int .i64 d1, .int .i64 a2, .int .i64 b2, .int .i64 c2, .int .i64 d2, .int .i64 a3, .int .i64 b3, .int .i64 c3, .int .i64 d3] 49)).alloc (.cells #[.int .i64 e0, .int .i64 f0, .int .i64 g0, .int .i64 h0, .int .i64 e1, .int .i64 f1, .int .i64 g1, .int .i64 h1, .int .i64 e2, .int .i64 f2, .int .i64 g2, .int .i64 h2, .int .i64 e3, .int .i64 f3, .int .i64 g3, .int .i64 h3] 49)).heap[w.heap.size + 1]? = some (.cells #[.int .i64 e0, .int .i64 f0, .int .i64 g0, .int .i64 h0, .int .i64 e1, .int .i64 f1, .int .i64 g1, .int .i64 h1, .int .i64 e2, .int .i64 f2, .int .i64 g2, .int .i64 h2, .int .i64 e3, .int .i64 f3, .int .i64 g3, .int .i64 h3] 49 (0, 0)) := (by
      have h := heap_alloc_new (w.alloc (.cells #[.int .i64 a0, .int .i64 b0, .int .i64 c0, .int .i64 d0, .int .i64 a1, .int .i64 b1, .int .i64 c1, .int .i64 d1, .int .i64 a2, .int .i64 b2, .int .i64 c2, .int .i64 d2, .int .i64 a3, .int .i64 b3, .int .i64 c3, .int .i64 d3] 49)) (.cells #[.int .i64 e0, .int .i64 f0, .int .i64 g0, .int .i64 h0, .int .i64 e1, .int .i64 f1, .int .i64 g1, .int .i64 h1, .int .i64 e2, .int .i64 f2, .int .i64 g2, .int .i64 h2, .int .i64 e3, .int .i64 f3, .int .i64 g3, .int .i64 h3] 49)
      rwa [World.size_alloc] at h)
  have hsz : w.heap.size + 2 ≤ ((w.alloc (.cells #[.int .i64 a0, .int .i64 b0, .int .i64 c0, .int .i64 d0, .int .i64 a1, .int .i64 b1, .int .i64 c1, .int .i64 d1, .int .i64 a2, .int .i64 b2, .int .i64 c2, .int .i64 d2, .int .i64 a3, .int .i64 b3, .int .i64 c3, .int .i64 d3] 49)).alloc (.cells #[.int .i64 e0, .int .i64 f0, .int .i64 g0, .int .i64 h0, .int .i64 e1, .int .i64 f1, .int .i64 g1, .int .i64 h1, .int .i64 e2, .int .i64 f2, .int .i64 g2, .int .i64 h2, .int .i64 e3, .int .i64 f3, .int .i64 g3, .int .i64 h3] 49)).heap.size := by simp
  generalize ((w.alloc (.cells #[.int .i64 a0, .int .i64 b0, .int .i64 c0, .int .i64 d0, .int .i64 a1, .int .i64 b1, .int .i64 c1, .int .i64 d1, .int .i64 a2, .int .i64 b2, .int .i64 c2, .int .i64 d2, .int .i64 a3, .int .i64 b3, .int .i64 c3, .int .i64 d3] 49)).alloc (.cells #[.int .i64 e0, .int .i64 f0, .int .i64 g0, .int .i64 h0, .int .i64 e1, .int .i64 f1, .int .i64 g1, .int .i64 h1, .int .i64 e2, .int .i64 f2, .int .i64 g2, .int .i64 h2, .int .i64 e3, .int .i64 f3, .int .i64 g3, .int .i64 h3] 49)) = W0 at *
  have HD0 := Lib.hid hb0
  have Hb2_0 := Lib.hid hc2
  have lb2_0 : w.heap.size < W0.heap.size := by omega
  have Hb3_0 := Lib.hid hc3
  have lb3_0 : w.heap.size + 1 < W0.heap.size := by omega
  have lw0 : w.heap.size ≤ W0.heap.size := by omega
  clear hb0 hsz hc2 hc3
  refine wp_region_lit ?_
  refine wpList_load_mid rfl 49 (.tmp 2) rfl (w.heap.size) 0 rfl [.int .i64 a0, .int .i64 b0, .int .i64 c0, .int .i64 d0, .int .i64 a1, .int .i64 b1, .int .i64 c1, .int .i64 d1, .int .i64 a2, .int .i64 b2, .int .i64 c2, .int .i64 d2, .int .i64 a3, .int .i64 b3, .int .i64 c3, .int .i64 d3] _ (range_row Hb2_0.out 0 [.int .i64 a0, .int .i64 b0, .int .i64 c0, .int .i64 d0, .int .i64 a1, .int .i64 b1, .int .i64 c1, .int .i64 d1, .int .i64 a2, .int .i64 b2, .int .i64 c2, .int .i64 d2, .int .i64 a3, .int .i64 b3, .int .i64 c3, .int .i64 d3] (fun j hj => by simp only [Nat.zero_add, List.getElem?_toArray])) Try.underlying49 rfl (by kernel_rfl) ?_
  refine wpList_step (fun K hK => ?_)
  go_simp
  refine (eMirror_any a0 b0 c0 d0 a1 b1 c1 d1 a2 b2 c2 d2 a3 b3 c3 d3 _).mono ?_
  rw [HE.out]
  rintro e u1_ ⟨rfl, hb⟩
  have HD1 := Lib.hid (HD0.out.trans (hb.mono lw0))
  have lw1 : w.heap.size ≤ u1_.heap.size := Nat.le_trans lw0 hb.size
  have Hb2_1 := Lib.hid ((hb.block _ lb2_0).trans Hb2_0.out)
  have lb2_1 : w.heap.size < u1_.heap.size := Nat.lt_of_lt_of_le lb2_0 hb.size
  have Hb3_1 := Lib.hid ((hb.block _ lb3_0).trans Hb3_0.out)
  have lb3_1 : w.heap.size + 1 < u1_.heap.size := Nat.lt_of_lt_of_le lb3_0 hb.size
  clear hb HD0 lw0 Hb2_0 lb2_0 Hb3_0 lb3_0
  refine hK _ _ ?_
  clear hK K
  refine wpList_step (fun K hK => ?_); go_simp; refine hK _ _ ?_; clear hK K
  refine wpList_step (fun K hK => ?_); go_simp; refine hK _ _ ?_; clear hK K
  refine wpList_step (fun K hK => ?_); go_simp; refine hK _ _ ?_; clear hK K
  refine wpList_step (fun K hK => ?_); go_simp; refine hK _ _ ?_; clear hK K
  have HTH := Lib.hid (there_mid (heap_alloc_new u1_ (.cells #[.int .i64 0, .int .i64 0, .int .i64 0, .int .i64 0, .int .i64 0, .int .i64 0, .int .i64 0, .int .i64 0, .int .i64 0, .int .i64 0, .int .i64 0, .int .i64 0, .int .i64 0, .int .i64 0, .int .i64 0, .int .i64 0] 49)) 0 16 (show 0 + 16 ≤ 16 by decide))
  refine wpList_store_mid rfl 49 (.tmp 5) (.tmp 22) rfl u1_.heap.size 0 #[.int .i64 a3, .int .i64 b3, .int .i64 c3, .int .i64 d3, .int .i64 a2, .int .i64 b2, .int .i64 c2, .int .i64 d2, .int .i64 a1, .int .i64 b1, .int .i64 c1, .int .i64 d1, .int .i64 a0, .int .i64 b0, .int .i64 c0, .int .i64 d0] rfl rfl HTH.out (by kernel_rfl) (by simp [Value.oneCell']) ?_
  (try rw [show (#[.int .i64 a3, .int .i64 b3, .int .i64 c3, .int .i64 d3, .int .i64 a2, .int .i64 b2, .int .i64 c2, .int .i64 d2, .int .i64 a1, .int .i64 b1, .int .i64 c1, .int .i64 d1, .int .i64 a0, .int .i64 b0, .int .i64 c0, .int .i64 d0] : Array Value).toList = [.int .i64 a3, .int .i64 b3, .int .i64 c3, .int .i64 d3, .int .i64 a2, .int .i64 b2, .int .i64 c2, .int .i64 d2, .int .i64 a1, .int .i64 b1, .int .i64 c1, .int .i64 d1, .int .i64 a0, .int .i64 b0, .int .i64 c0, .int .i64 d0] from rfl])
  have hba : Below u1_.heap.size u1_ (u1_.alloc (.cells #[.int .i64 0, .int .i64 0, .int .i64 0, .int .i64 0, .int .i64 0, .int .i64 0, .int .i64 0, .int .i64 0, .int .i64 0, .int .i64 0, .int .i64 0, .int .i64 0, .int .i64 0, .int .i64 0, .int .i64 0, .int .i64 0] 49)) := bal (Below.refl _ _) _
  have hb : Below u1_.heap.size u1_ ((u1_.alloc (.cells #[.int .i64 0, .int .i64 0, .int .i64 0, .int .i64 0, .int .i64 0, .int .i64 0, .int .i64 0, .int .i64 0, .int .i64 0, .int .i64 0, .int .i64 0, .int .i64 0, .int .i64 0, .int .i64 0, .int .i64 0, .int .i64 0] 49)).setCells u1_.heap.size 0 [.int .i64 a3, .int .i64 b3, .int .i64 c3, .int .i64 d3, .int .i64 a2, .int .i64 b2, .int .i64 c2, .int .i64 d2, .int .i64 a1, .int .i64 b1, .int .i64 c1, .int .i64 d1, .int .i64 a0, .int .i64 b0, .int .i64 c0, .int .i64 d0]) := below_mids (Nat.le_refl _) _ _ hba
  have hnb : ((u1_.alloc (.cells #[.int .i64 0, .int .i64 0, .int .i64 0, .int .i64 0, .int .i64 0, .int .i64 0, .int .i64 0, .int .i64 0, .int .i64 0, .int .i64 0, .int .i64 0, .int .i64 0, .int .i64 0, .int .i64 0, .int .i64 0, .int .i64 0] 49)).setCells u1_.heap.size 0 [.int .i64 a3, .int .i64 b3, .int .i64 c3, .int .i64 d3, .int .i64 a2, .int .i64 b2, .int .i64 c2, .int .i64 d2, .int .i64 a1, .int .i64 b1, .int .i64 c1, .int .i64 d1, .int .i64 a0, .int .i64 b0, .int .i64 c0, .int .i64 d0]).heap[u1_.heap.size]? = some (.cells #[.int .i64 a3, .int .i64 b3, .int .i64 c3, .int .i64 d3, .int .i64 a2, .int .i64 b2, .int .i64 c2, .int .i64 d2, .int .i64 a1, .int .i64 b1, .int .i64 c1, .int .i64 d1, .int .i64 a0, .int .i64 b0, .int .i64 c0, .int .i64 d0] 49 (0, 0)) := block_whole [.int .i64 a3, .int .i64 b3, .int .i64 c3, .int .i64 d3, .int .i64 a2, .int .i64 b2, .int .i64 c2, .int .i64 d2, .int .i64 a1, .int .i64 b1, .int .i64 c1, .int .i64 d1, .int .i64 a0, .int .i64 b0, .int .i64 c0, .int .i64 d0] (heap_alloc_new u1_ (.cells #[.int .i64 0, .int .i64 0, .int .i64 0, .int .i64 0, .int .i64 0, .int .i64 0, .int .i64 0, .int .i64 0, .int .i64 0, .int .i64 0, .int .i64 0, .int .i64 0, .int .i64 0, .int .i64 0, .int .i64 0, .int .i64 0] 49)) rfl
  have hlb : u1_.heap.size < ((u1_.alloc (.cells #[.int .i64 0, .int .i64 0, .int .i64 0, .int .i64 0, .int .i64 0, .int .i64 0, .int .i64 0, .int .i64 0, .int .i64 0, .int .i64 0, .int .i64 0, .int .i64 0, .int .i64 0, .int .i64 0, .int .i64 0, .int .i64 0] 49)).setCells u1_.heap.size 0 [.int .i64 a3, .int .i64 b3, .int .i64 c3, .int .i64 d3, .int .i64 a2, .int .i64 b2, .int .i64 c2, .int .i64 d2, .int .i64 a1, .int .i64 b1, .int .i64 c1, .int .i64 d1, .int .i64 a0, .int .i64 b0, .int .i64 c0, .int .i64 d0]).heap.size := (Array.getElem?_eq_some_iff.1 hnb).1
  have HD2 := Lib.hid (HD1.out.trans (hb.mono lw1))
  have lw2 : w.heap.size ≤ ((u1_.alloc (.cells #[.int .i64 0, .int .i64 0, .int .i64 0, .int .i64 0, .int .i64 0, .int .i64 0, .int .i64 0, .int .i64 0, .int .i64 0, .int .i64 0, .int .i64 0, .int .i64 0, .int .i64 0, .int .i64 0, .int .i64 0, .int .i64 0] 49)).setCells u1_.heap.size 0 [.int .i64 a3, .int .i64 b3, .int .i64 c3, .int .i64 d3, .int .i64 a2, .int .i64 b2, .int .i64 c2, .int .i64 d2, .int .i64 a1, .int .i64 b1, .int .i64 c1, .int .i64 d1, .int .i64 a0, .int .i64 b0, .int .i64 c0, .int .i64 d0]).heap.size := Nat.le_trans lw1 hb.size
  have Hb2_2 := Lib.hid ((hb.block _ lb2_1).trans Hb2_1.out)
  have lb2_2 : w.heap.size < ((u1_.alloc (.cells #[.int .i64 0, .int .i64 0, .int .i64 0, .int .i64 0, .int .i64 0, .int .i64 0, .int .i64 0, .int .i64 0, .int .i64 0, .int .i64 0, .int .i64 0, .int .i64 0, .int .i64 0, .int .i64 0, .int .i64 0, .int .i64 0] 49)).setCells u1_.heap.size 0 [.int .i64 a3, .int .i64 b3, .int .i64 c3, .int .i64 d3, .int .i64 a2, .int .i64 b2, .int .i64 c2, .int .i64 d2, .int .i64 a1, .int .i64 b1, .int .i64 c1, .int .i64 d1, .int .i64 a0, .int .i64 b0, .int .i64 c0, .int .i64 d0]).heap.size := Nat.lt_of_lt_of_le lb2_1 hb.size
  have Hb3_2 := Lib.hid ((hb.block _ lb3_1).trans Hb3_1.out)
  have lb3_2 : w.heap.size + 1 < ((u1_.alloc (.cells #[.int .i64 0, .int .i64 0, .int .i64 0, .int .i64 0, .int .i64 0, .int .i64 0, .int .i64 0, .int .i64 0, .int .i64 0, .int .i64 0, .int .i64 0, .int .i64 0, .int .i64 0, .int .i64 0, .int .i64 0, .int .i64 0] 49)).setCells u1_.heap.size 0 [.int .i64 a3, .int .i64 b3, .int .i64 c3, .int .i64 d3, .int .i64 a2, .int .i64 b2, .int .i64 c2, .int .i64 d2, .int .i64 a1, .int .i64 b1, .int .i64 c1, .int .i64 d1, .int .i64 a0, .int .i64 b0, .int .i64 c0, .int .i64 d0]).heap.size := Nat.lt_of_lt_of_le lb3_1 hb.size
  have Hb5_2 := Lib.hid hnb
  have lb5_2 := hlb
  clear hb hba hnb hlb HTH HD1 lw1 Hb2_1 lb2_1 Hb3_1 lb3_1
  generalize ((u1_.alloc (.cells #[.int .i64 0, .int .i64 0, .int .i64 0, .int .i64 0, .int .i64 0, .int .i64 0, .int .i64 0, .int .i64 0, .int .i64 0, .int .i64 0, .int .i64 0, .int .i64 0, .int .i64 0, .int .i64 0, .int .i64 0, .int .i64 0] 49)).setCells u1_.heap.size 0 [.int .i64 a3, .int .i64 b3, .int .i64 c3, .int .i64 d3, .int .i64 a2, .int .i64 b2, .int .i64 c2, .int .i64 d2, .int .i64 a1, .int .i64 b1, .int .i64 c1, .int .i64 d1, .int .i64 a0, .int .i64 b0, .int .i64 c0, .int .i64 d0]) = U2 at *
  generalize u1_.heap.size = BB2 at *
  refine wpList_step (fun K hK => ?_); go_simp; refine hK _ _ ?_; clear hK K
  refine wpList_nil ?_
  go_upto_region 4 with fail
  refine wp_region_lit ?_
  refine wpList_load_mid rfl 49 (.tmp 5) rfl (BB2) 0 rfl [.int .i64 a3, .int .i64 b3, .int .i64 c3, .int .i64 d3, .int .i64 a2, .int .i64 b2, .int .i64 c2, .int .i64 d2, .int .i64 a1, .int .i64 b1, .int .i64 c1, .int .i64 d1, .int .i64 a0, .int .i64 b0, .int .i64 c0, .int .i64 d0] _ (range_row Hb5_2.out 0 [.int .i64 a3, .int .i64 b3, .int .i64 c3, .int .i64 d3, .int .i64 a2, .int .i64 b2, .int .i64 c2, .int .i64 d2, .int .i64 a1, .int .i64 b1, .int .i64 c1, .int .i64 d1, .int .i64 a0, .int .i64 b0, .int .i64 c0, .int .i64 d0] (fun j hj => by simp only [Nat.zero_add, List.getElem?_toArray])) Try.underlying49 rfl (by kernel_rfl) ?_
  refine wpList_step (fun K hK => ?_)
  go_simp
  refine (eMirror_any a3 b3 c3 d3 a2 b2 c2 d2 a1 b1 c1 d1 a0 b0 c0 d0 _).mono ?_
  rw [HB.out]
  rintro e u3_ ⟨rfl, hb⟩
  have HD3 := Lib.hid (HD2.out.trans (hb.mono lw2))
  have lw3 : w.heap.size ≤ u3_.heap.size := Nat.le_trans lw2 hb.size
  have Hb2_3 := Lib.hid ((hb.block _ lb2_2).trans Hb2_2.out)
  have lb2_3 : w.heap.size < u3_.heap.size := Nat.lt_of_lt_of_le lb2_2 hb.size
  have Hb3_3 := Lib.hid ((hb.block _ lb3_2).trans Hb3_2.out)
  have lb3_3 : w.heap.size + 1 < u3_.heap.size := Nat.lt_of_lt_of_le lb3_2 hb.size
  have Hb5_3 := Lib.hid ((hb.block _ lb5_2).trans Hb5_2.out)
  have lb5_3 : BB2 < u3_.heap.size := Nat.lt_of_lt_of_le lb5_2 hb.size
  clear hb HD2 lw2 Hb2_2 lb2_2 Hb3_2 lb3_2 Hb5_2 lb5_2
  refine hK _ _ ?_
  clear hK K
  refine wpList_step (fun K hK => ?_); go_simp; refine hK _ _ ?_; clear hK K
  refine wpList_step (fun K hK => ?_); go_simp; refine hK _ _ ?_; clear hK K
  refine wpList_step (fun K hK => ?_); go_simp; refine hK _ _ ?_; clear hK K
  refine wpList_step (fun K hK => ?_); go_simp; refine hK _ _ ?_; clear hK K
  have HTH := Lib.hid (there_mid (heap_alloc_new u3_ (.cells #[.int .i64 0, .int .i64 0, .int .i64 0, .int .i64 0, .int .i64 0, .int .i64 0, .int .i64 0, .int .i64 0, .int .i64 0, .int .i64 0, .int .i64 0, .int .i64 0, .int .i64 0, .int .i64 0, .int .i64 0, .int .i64 0] 49)) 0 16 (show 0 + 16 ≤ 16 by decide))
  refine wpList_store_mid rfl 49 (.tmp 7) (.tmp 35) rfl u3_.heap.size 0 #[.int .i64 a0, .int .i64 b0, .int .i64 c0, .int .i64 d0, .int .i64 a1, .int .i64 b1, .int .i64 c1, .int .i64 d1, .int .i64 a2, .int .i64 b2, .int .i64 c2, .int .i64 d2, .int .i64 a3, .int .i64 b3, .int .i64 c3, .int .i64 d3] rfl rfl HTH.out (by kernel_rfl) (by simp [Value.oneCell']) ?_
  (try rw [show (#[.int .i64 a0, .int .i64 b0, .int .i64 c0, .int .i64 d0, .int .i64 a1, .int .i64 b1, .int .i64 c1, .int .i64 d1, .int .i64 a2, .int .i64 b2, .int .i64 c2, .int .i64 d2, .int .i64 a3, .int .i64 b3, .int .i64 c3, .int .i64 d3] : Array Value).toList = [.int .i64 a0, .int .i64 b0, .int .i64 c0, .int .i64 d0, .int .i64 a1, .int .i64 b1, .int .i64 c1, .int .i64 d1, .int .i64 a2, .int .i64 b2, .int .i64 c2, .int .i64 d2, .int .i64 a3, .int .i64 b3, .int .i64 c3, .int .i64 d3] from rfl])
  have hba : Below u3_.heap.size u3_ (u3_.alloc (.cells #[.int .i64 0, .int .i64 0, .int .i64 0, .int .i64 0, .int .i64 0, .int .i64 0, .int .i64 0, .int .i64 0, .int .i64 0, .int .i64 0, .int .i64 0, .int .i64 0, .int .i64 0, .int .i64 0, .int .i64 0, .int .i64 0] 49)) := bal (Below.refl _ _) _
  have hb : Below u3_.heap.size u3_ ((u3_.alloc (.cells #[.int .i64 0, .int .i64 0, .int .i64 0, .int .i64 0, .int .i64 0, .int .i64 0, .int .i64 0, .int .i64 0, .int .i64 0, .int .i64 0, .int .i64 0, .int .i64 0, .int .i64 0, .int .i64 0, .int .i64 0, .int .i64 0] 49)).setCells u3_.heap.size 0 [.int .i64 a0, .int .i64 b0, .int .i64 c0, .int .i64 d0, .int .i64 a1, .int .i64 b1, .int .i64 c1, .int .i64 d1, .int .i64 a2, .int .i64 b2, .int .i64 c2, .int .i64 d2, .int .i64 a3, .int .i64 b3, .int .i64 c3, .int .i64 d3]) := below_mids (Nat.le_refl _) _ _ hba
  have hnb : ((u3_.alloc (.cells #[.int .i64 0, .int .i64 0, .int .i64 0, .int .i64 0, .int .i64 0, .int .i64 0, .int .i64 0, .int .i64 0, .int .i64 0, .int .i64 0, .int .i64 0, .int .i64 0, .int .i64 0, .int .i64 0, .int .i64 0, .int .i64 0] 49)).setCells u3_.heap.size 0 [.int .i64 a0, .int .i64 b0, .int .i64 c0, .int .i64 d0, .int .i64 a1, .int .i64 b1, .int .i64 c1, .int .i64 d1, .int .i64 a2, .int .i64 b2, .int .i64 c2, .int .i64 d2, .int .i64 a3, .int .i64 b3, .int .i64 c3, .int .i64 d3]).heap[u3_.heap.size]? = some (.cells #[.int .i64 a0, .int .i64 b0, .int .i64 c0, .int .i64 d0, .int .i64 a1, .int .i64 b1, .int .i64 c1, .int .i64 d1, .int .i64 a2, .int .i64 b2, .int .i64 c2, .int .i64 d2, .int .i64 a3, .int .i64 b3, .int .i64 c3, .int .i64 d3] 49 (0, 0)) := block_whole [.int .i64 a0, .int .i64 b0, .int .i64 c0, .int .i64 d0, .int .i64 a1, .int .i64 b1, .int .i64 c1, .int .i64 d1, .int .i64 a2, .int .i64 b2, .int .i64 c2, .int .i64 d2, .int .i64 a3, .int .i64 b3, .int .i64 c3, .int .i64 d3] (heap_alloc_new u3_ (.cells #[.int .i64 0, .int .i64 0, .int .i64 0, .int .i64 0, .int .i64 0, .int .i64 0, .int .i64 0, .int .i64 0, .int .i64 0, .int .i64 0, .int .i64 0, .int .i64 0, .int .i64 0, .int .i64 0, .int .i64 0, .int .i64 0] 49)) rfl
  have hlb : u3_.heap.size < ((u3_.alloc (.cells #[.int .i64 0, .int .i64 0, .int .i64 0, .int .i64 0, .int .i64 0, .int .i64 0, .int .i64 0, .int .i64 0, .int .i64 0, .int .i64 0, .int .i64 0, .int .i64 0, .int .i64 0, .int .i64 0, .int .i64 0, .int .i64 0] 49)).setCells u3_.heap.size 0 [.int .i64 a0, .int .i64 b0, .int .i64 c0, .int .i64 d0, .int .i64 a1, .int .i64 b1, .int .i64 c1, .int .i64 d1, .int .i64 a2, .int .i64 b2, .int .i64 c2, .int .i64 d2, .int .i64 a3, .int .i64 b3, .int .i64 c3, .int .i64 d3]).heap.size := (Array.getElem?_eq_some_iff.1 hnb).1
  have HD4 := Lib.hid (HD3.out.trans (hb.mono lw3))
  have lw4 : w.heap.size ≤ ((u3_.alloc (.cells #[.int .i64 0, .int .i64 0, .int .i64 0, .int .i64 0, .int .i64 0, .int .i64 0, .int .i64 0, .int .i64 0, .int .i64 0, .int .i64 0, .int .i64 0, .int .i64 0, .int .i64 0, .int .i64 0, .int .i64 0, .int .i64 0] 49)).setCells u3_.heap.size 0 [.int .i64 a0, .int .i64 b0, .int .i64 c0, .int .i64 d0, .int .i64 a1, .int .i64 b1, .int .i64 c1, .int .i64 d1, .int .i64 a2, .int .i64 b2, .int .i64 c2, .int .i64 d2, .int .i64 a3, .int .i64 b3, .int .i64 c3, .int .i64 d3]).heap.size := Nat.le_trans lw3 hb.size
  have Hb2_4 := Lib.hid ((hb.block _ lb2_3).trans Hb2_3.out)
  have lb2_4 : w.heap.size < ((u3_.alloc (.cells #[.int .i64 0, .int .i64 0, .int .i64 0, .int .i64 0, .int .i64 0, .int .i64 0, .int .i64 0, .int .i64 0, .int .i64 0, .int .i64 0, .int .i64 0, .int .i64 0, .int .i64 0, .int .i64 0, .int .i64 0, .int .i64 0] 49)).setCells u3_.heap.size 0 [.int .i64 a0, .int .i64 b0, .int .i64 c0, .int .i64 d0, .int .i64 a1, .int .i64 b1, .int .i64 c1, .int .i64 d1, .int .i64 a2, .int .i64 b2, .int .i64 c2, .int .i64 d2, .int .i64 a3, .int .i64 b3, .int .i64 c3, .int .i64 d3]).heap.size := Nat.lt_of_lt_of_le lb2_3 hb.size
  have Hb3_4 := Lib.hid ((hb.block _ lb3_3).trans Hb3_3.out)
  have lb3_4 : w.heap.size + 1 < ((u3_.alloc (.cells #[.int .i64 0, .int .i64 0, .int .i64 0, .int .i64 0, .int .i64 0, .int .i64 0, .int .i64 0, .int .i64 0, .int .i64 0, .int .i64 0, .int .i64 0, .int .i64 0, .int .i64 0, .int .i64 0, .int .i64 0, .int .i64 0] 49)).setCells u3_.heap.size 0 [.int .i64 a0, .int .i64 b0, .int .i64 c0, .int .i64 d0, .int .i64 a1, .int .i64 b1, .int .i64 c1, .int .i64 d1, .int .i64 a2, .int .i64 b2, .int .i64 c2, .int .i64 d2, .int .i64 a3, .int .i64 b3, .int .i64 c3, .int .i64 d3]).heap.size := Nat.lt_of_lt_of_le lb3_3 hb.size
  have Hb5_4 := Lib.hid ((hb.block _ lb5_3).trans Hb5_3.out)
  have lb5_4 : BB2 < ((u3_.alloc (.cells #[.int .i64 0, .int .i64 0, .int .i64 0, .int .i64 0, .int .i64 0, .int .i64 0, .int .i64 0, .int .i64 0, .int .i64 0, .int .i64 0, .int .i64 0, .int .i64 0, .int .i64 0, .int .i64 0, .int .i64 0, .int .i64 0] 49)).setCells u3_.heap.size 0 [.int .i64 a0, .int .i64 b0, .int .i64 c0, .int .i64 d0, .int .i64 a1, .int .i64 b1, .int .i64 c1, .int .i64 d1, .int .i64 a2, .int .i64 b2, .int .i64 c2, .int .i64 d2, .int .i64 a3, .int .i64 b3, .int .i64 c3, .int .i64 d3]).heap.size := Nat.lt_of_lt_of_le lb5_3 hb.size
  have Hb7_4 := Lib.hid hnb
  have lb7_4 := hlb
  clear hb hba hnb hlb HTH HD3 lw3 Hb2_3 lb2_3 Hb3_3 lb3_3 Hb5_3 lb5_3
  generalize ((u3_.alloc (.cells #[.int .i64 0, .int .i64 0, .int .i64 0, .int .i64 0, .int .i64 0, .int .i64 0, .int .i64 0, .int .i64 0, .int .i64 0, .int .i64 0, .int .i64 0, .int .i64 0, .int .i64 0, .int .i64 0, .int .i64 0, .int .i64 0] 49)).setCells u3_.heap.size 0 [.int .i64 a0, .int .i64 b0, .int .i64 c0, .int .i64 d0, .int .i64 a1, .int .i64 b1, .int .i64 c1, .int .i64 d1, .int .i64 a2, .int .i64 b2, .int .i64 c2, .int .i64 d2, .int .i64 a3, .int .i64 b3, .int .i64 c3, .int .i64 d3]) = U4 at *
  generalize u3_.heap.size = BB4 at *
  refine wpList_step (fun K hK => ?_); go_simp; refine hK _ _ ?_; clear hK K
  refine wpList_nil ?_
  go_upto_region 5 with fail
  refine wp_region_lit ?_
  refine wpList_step (fun K hK => ?_); go_simp; refine hK _ _ ?_; clear hK K
  refine wpList_step (fun K hK => ?_); go_simp; refine hK _ _ ?_; clear hK K
  refine wpList_step (fun K hK => ?_); go_simp; refine hK _ _ ?_; clear hK K
  refine wpList_step (fun K hK => ?_)
  rw [if_pos (show Region.wanted _ _ = true from rfl)]
  refine wp_load_mid 49 (.tmp 7) rfl (BB4) 0 rfl [.int .i64 a0, .int .i64 b0, .int .i64 c0, .int .i64 d0, .int .i64 a1, .int .i64 b1, .int .i64 c1, .int .i64 d1, .int .i64 a2, .int .i64 b2, .int .i64 c2, .int .i64 d2, .int .i64 a3, .int .i64 b3, .int .i64 c3, .int .i64 d3] _ (range_row Hb7_4.out 0 [.int .i64 a0, .int .i64 b0, .int .i64 c0, .int .i64 d0, .int .i64 a1, .int .i64 b1, .int .i64 c1, .int .i64 d1, .int .i64 a2, .int .i64 b2, .int .i64 c2, .int .i64 d2, .int .i64 a3, .int .i64 b3, .int .i64 c3, .int .i64 d3] (fun j hj => by simp only [Nat.zero_add, List.getElem?_toArray])) Try.underlying49 rfl (by kernel_rfl) ?_
  refine hK _ _ ?_
  clear hK K
  refine wpList_step (fun K hK => ?_)
  rw [if_pos (show Region.wanted _ _ = true from rfl)]
  refine wp_load_mid 49 (.tmp 2) rfl (w.heap.size) 0 rfl [.int .i64 a0, .int .i64 b0, .int .i64 c0, .int .i64 d0, .int .i64 a1, .int .i64 b1, .int .i64 c1, .int .i64 d1, .int .i64 a2, .int .i64 b2, .int .i64 c2, .int .i64 d2, .int .i64 a3, .int .i64 b3, .int .i64 c3, .int .i64 d3] _ (range_row Hb2_4.out 0 [.int .i64 a0, .int .i64 b0, .int .i64 c0, .int .i64 d0, .int .i64 a1, .int .i64 b1, .int .i64 c1, .int .i64 d1, .int .i64 a2, .int .i64 b2, .int .i64 c2, .int .i64 d2, .int .i64 a3, .int .i64 b3, .int .i64 c3, .int .i64 d3] (fun j hj => by simp only [Nat.zero_add, List.getElem?_toArray])) Try.underlying49 rfl (by kernel_rfl) ?_
  refine hK _ _ ?_
  clear hK K
  refine wpList_step (fun K hK => ?_); go_simp; refine hK _ _ ?_; clear hK K
  refine wpList_step (fun K hK => ?_); go_simp; refine hK _ _ ?_; clear hK K
  refine wpList_nil ?_
  go_upto_region 7 with fail
  refine wp_region_lit ?_
  refine wpList_step (fun K hK => ?_); go_simp; refine hK _ _ ?_; clear hK K
  refine wpList_step (fun K hK => ?_); go_simp; refine hK _ _ ?_; clear hK K
  refine wpList_step (fun K hK => ?_); go_simp; refine hK _ _ ?_; clear hK K
  have HTH := Lib.hid (there_mid (heap_alloc_new U4 (.cells #[.int .i64 0, .int .i64 0, .int .i64 0, .int .i64 0] 25)) 0 4 (show 0 + 4 ≤ 4 by decide))
  refine wpList_store_mid rfl 25 (.tmp 9) (.tmp 45) rfl U4.heap.size 0 #[.int .i64 1073741824, .int .i64 1073741824, .int .i64 0, .int .i64 0] rfl rfl HTH.out (by kernel_rfl) (by simp [Value.oneCell']) ?_
  (try rw [show (#[.int .i64 1073741824, .int .i64 1073741824, .int .i64 0, .int .i64 0] : Array Value).toList = [.int .i64 1073741824, .int .i64 1073741824, .int .i64 0, .int .i64 0] from rfl])
  have hba : Below U4.heap.size U4 (U4.alloc (.cells #[.int .i64 0, .int .i64 0, .int .i64 0, .int .i64 0] 25)) := bal (Below.refl _ _) _
  have hb : Below U4.heap.size U4 ((U4.alloc (.cells #[.int .i64 0, .int .i64 0, .int .i64 0, .int .i64 0] 25)).setCells U4.heap.size 0 [.int .i64 1073741824, .int .i64 1073741824, .int .i64 0, .int .i64 0]) := below_mids (Nat.le_refl _) _ _ hba
  have hnb : ((U4.alloc (.cells #[.int .i64 0, .int .i64 0, .int .i64 0, .int .i64 0] 25)).setCells U4.heap.size 0 [.int .i64 1073741824, .int .i64 1073741824, .int .i64 0, .int .i64 0]).heap[U4.heap.size]? = some (.cells #[.int .i64 1073741824, .int .i64 1073741824, .int .i64 0, .int .i64 0] 25 (0, 0)) := block_whole [.int .i64 1073741824, .int .i64 1073741824, .int .i64 0, .int .i64 0] (heap_alloc_new U4 (.cells #[.int .i64 0, .int .i64 0, .int .i64 0, .int .i64 0] 25)) rfl
  have hlb : U4.heap.size < ((U4.alloc (.cells #[.int .i64 0, .int .i64 0, .int .i64 0, .int .i64 0] 25)).setCells U4.heap.size 0 [.int .i64 1073741824, .int .i64 1073741824, .int .i64 0, .int .i64 0]).heap.size := (Array.getElem?_eq_some_iff.1 hnb).1
  have HD5 := Lib.hid (HD4.out.trans (hb.mono lw4))
  have lw5 : w.heap.size ≤ ((U4.alloc (.cells #[.int .i64 0, .int .i64 0, .int .i64 0, .int .i64 0] 25)).setCells U4.heap.size 0 [.int .i64 1073741824, .int .i64 1073741824, .int .i64 0, .int .i64 0]).heap.size := Nat.le_trans lw4 hb.size
  have Hb2_5 := Lib.hid ((hb.block _ lb2_4).trans Hb2_4.out)
  have lb2_5 : w.heap.size < ((U4.alloc (.cells #[.int .i64 0, .int .i64 0, .int .i64 0, .int .i64 0] 25)).setCells U4.heap.size 0 [.int .i64 1073741824, .int .i64 1073741824, .int .i64 0, .int .i64 0]).heap.size := Nat.lt_of_lt_of_le lb2_4 hb.size
  have Hb3_5 := Lib.hid ((hb.block _ lb3_4).trans Hb3_4.out)
  have lb3_5 : w.heap.size + 1 < ((U4.alloc (.cells #[.int .i64 0, .int .i64 0, .int .i64 0, .int .i64 0] 25)).setCells U4.heap.size 0 [.int .i64 1073741824, .int .i64 1073741824, .int .i64 0, .int .i64 0]).heap.size := Nat.lt_of_lt_of_le lb3_4 hb.size
  have Hb5_5 := Lib.hid ((hb.block _ lb5_4).trans Hb5_4.out)
  have lb5_5 : BB2 < ((U4.alloc (.cells #[.int .i64 0, .int .i64 0, .int .i64 0, .int .i64 0] 25)).setCells U4.heap.size 0 [.int .i64 1073741824, .int .i64 1073741824, .int .i64 0, .int .i64 0]).heap.size := Nat.lt_of_lt_of_le lb5_4 hb.size
  have Hb7_5 := Lib.hid ((hb.block _ lb7_4).trans Hb7_4.out)
  have lb7_5 : BB4 < ((U4.alloc (.cells #[.int .i64 0, .int .i64 0, .int .i64 0, .int .i64 0] 25)).setCells U4.heap.size 0 [.int .i64 1073741824, .int .i64 1073741824, .int .i64 0, .int .i64 0]).heap.size := Nat.lt_of_lt_of_le lb7_4 hb.size
  have Hb9_5 := Lib.hid hnb
  have lb9_5 := hlb
  clear hb hba hnb hlb HTH HD4 lw4 Hb2_4 lb2_4 Hb3_4 lb3_4 Hb5_4 lb5_4 Hb7_4 lb7_4
  generalize ((U4.alloc (.cells #[.int .i64 0, .int .i64 0, .int .i64 0, .int .i64 0] 25)).setCells U4.heap.size 0 [.int .i64 1073741824, .int .i64 1073741824, .int .i64 0, .int .i64 0]) = U5 at *
  generalize U4.heap.size = BB5 at *
  refine wpList_nil ?_
  go_upto_region 8 with fail
  refine wp_region_lit ?_
  refine wpList_load_mid rfl 49 (.tmp 2) rfl (w.heap.size) 0 rfl [.int .i64 a0, .int .i64 b0, .int .i64 c0, .int .i64 d0, .int .i64 a1, .int .i64 b1, .int .i64 c1, .int .i64 d1, .int .i64 a2, .int .i64 b2, .int .i64 c2, .int .i64 d2, .int .i64 a3, .int .i64 b3, .int .i64 c3, .int .i64 d3] _ (range_row Hb2_5.out 0 [.int .i64 a0, .int .i64 b0, .int .i64 c0, .int .i64 d0, .int .i64 a1, .int .i64 b1, .int .i64 c1, .int .i64 d1, .int .i64 a2, .int .i64 b2, .int .i64 c2, .int .i64 d2, .int .i64 a3, .int .i64 b3, .int .i64 c3, .int .i64 d3] (fun j hj => by simp only [Nat.zero_add, List.getElem?_toArray])) Try.underlying49 rfl (by kernel_rfl) ?_
  refine wpList_step (fun K hK => ?_); go_simp; refine hK _ _ ?_; clear hK K
  refine wpList_load_mid rfl 25 (.tmp 9) rfl (BB5) 0 rfl [.int .i64 1073741824, .int .i64 1073741824, .int .i64 0, .int .i64 0] _ (range_row Hb9_5.out 0 [.int .i64 1073741824, .int .i64 1073741824, .int .i64 0, .int .i64 0] (fun j hj => by simp only [Nat.zero_add, List.getElem?_toArray])) Try.underlying25 rfl (by kernel_rfl) ?_
  refine wpList_step (fun K hK => ?_); go_simp; refine hK _ _ ?_; clear hK K
  refine wpList_load_mid rfl 25 (.tmp 9) rfl (BB5) 0 rfl [.int .i64 1073741824, .int .i64 1073741824, .int .i64 0, .int .i64 0] _ (range_row Hb9_5.out 0 [.int .i64 1073741824, .int .i64 1073741824, .int .i64 0, .int .i64 0] (fun j hj => by simp only [Nat.zero_add, List.getElem?_toArray])) Try.underlying25 rfl (by kernel_rfl) ?_
  refine wpList_step (fun K hK => ?_); go_simp; refine hK _ _ ?_; clear hK K
  refine wpList_step (fun K hK => ?_); go_simp; refine hK _ _ ?_; clear hK K
  refine wpList_step (fun K hK => ?_); go_simp; refine hK _ _ ?_; clear hK K
  refine wpList_step (fun K hK => ?_); go_simp; refine hK _ _ ?_; clear hK K
  refine wpList_step (fun K hK => ?_)
  go_simp
  refine (eStar_any a0 b0 c0 d0 a1 b1 c1 d1 a2 b2 c2 d2 a3 b3 c3 d3 0 0 0 0 1073741824 1073741824 0 0 1073741824 1073741824 0 0 0 0 0 0 _).mono ?_
  rw [show staO ⟨⟨⟨a0, b0⟩, ⟨c0, d0⟩⟩, ⟨⟨a1, b1⟩, ⟨c1, d1⟩⟩, ⟨⟨a2, b2⟩, ⟨c2, d2⟩⟩, ⟨⟨a3, b3⟩, ⟨c3, d3⟩⟩⟩ ⟨⟨⟨0, 0⟩, ⟨0, 0⟩⟩, ⟨⟨1073741824, 1073741824⟩, ⟨0, 0⟩⟩, ⟨⟨1073741824, 1073741824⟩, ⟨0, 0⟩⟩, ⟨⟨0, 0⟩, ⟨0, 0⟩⟩⟩ = staO ⟨⟨⟨a0, b0⟩, ⟨c0, d0⟩⟩, ⟨⟨a1, b1⟩, ⟨c1, d1⟩⟩, ⟨⟨a2, b2⟩, ⟨c2, d2⟩⟩, ⟨⟨a3, b3⟩, ⟨c3, d3⟩⟩⟩ ⟨R0, one1, one1, R0⟩ from rfl]
  rw [HS.out]
  rintro e u6_ ⟨rfl, hb⟩
  have HD6 := Lib.hid (HD5.out.trans (hb.mono lw5))
  have lw6 : w.heap.size ≤ u6_.heap.size := Nat.le_trans lw5 hb.size
  have Hb2_6 := Lib.hid ((hb.block _ lb2_5).trans Hb2_5.out)
  have lb2_6 : w.heap.size < u6_.heap.size := Nat.lt_of_lt_of_le lb2_5 hb.size
  have Hb3_6 := Lib.hid ((hb.block _ lb3_5).trans Hb3_5.out)
  have lb3_6 : w.heap.size + 1 < u6_.heap.size := Nat.lt_of_lt_of_le lb3_5 hb.size
  have Hb5_6 := Lib.hid ((hb.block _ lb5_5).trans Hb5_5.out)
  have lb5_6 : BB2 < u6_.heap.size := Nat.lt_of_lt_of_le lb5_5 hb.size
  have Hb7_6 := Lib.hid ((hb.block _ lb7_5).trans Hb7_5.out)
  have lb7_6 : BB4 < u6_.heap.size := Nat.lt_of_lt_of_le lb7_5 hb.size
  have Hb9_6 := Lib.hid ((hb.block _ lb9_5).trans Hb9_5.out)
  have lb9_6 : BB5 < u6_.heap.size := Nat.lt_of_lt_of_le lb9_5 hb.size
  clear hb HD5 lw5 Hb2_5 lb2_5 Hb3_5 lb3_5 Hb5_5 lb5_5 Hb7_5 lb7_5 Hb9_5 lb9_5
  refine hK _ _ ?_
  clear hK K
  refine wpList_step (fun K hK => ?_); go_simp; refine hK _ _ ?_; clear hK K
  refine wpList_step (fun K hK => ?_); go_simp; refine hK _ _ ?_; clear hK K
  refine wpList_step (fun K hK => ?_); go_simp; refine hK _ _ ?_; clear hK K
  refine wpList_step (fun K hK => ?_); go_simp; refine hK _ _ ?_; clear hK K
  have HTH := Lib.hid (there_mid (heap_alloc_new u6_ (.cells #[.int .i64 0, .int .i64 0, .int .i64 0, .int .i64 0, .int .i64 0, .int .i64 0, .int .i64 0, .int .i64 0, .int .i64 0, .int .i64 0, .int .i64 0, .int .i64 0, .int .i64 0, .int .i64 0, .int .i64 0, .int .i64 0] 49)) 0 16 (show 0 + 16 ≤ 16 by decide))
  refine wpList_store_mid rfl 49 (.tmp 10) (.tmp 57) rfl u6_.heap.size 0 #[.int .i64 a0, .int .i64 b0, .int .i64 c0, .int .i64 d0, .int .i64 a1, .int .i64 b1, .int .i64 c1, .int .i64 d1, .int .i64 a2, .int .i64 b2, .int .i64 c2, .int .i64 d2, .int .i64 a3, .int .i64 b3, .int .i64 c3, .int .i64 d3] rfl rfl HTH.out (by kernel_rfl) (by simp [Value.oneCell']) ?_
  (try rw [show (#[.int .i64 a0, .int .i64 b0, .int .i64 c0, .int .i64 d0, .int .i64 a1, .int .i64 b1, .int .i64 c1, .int .i64 d1, .int .i64 a2, .int .i64 b2, .int .i64 c2, .int .i64 d2, .int .i64 a3, .int .i64 b3, .int .i64 c3, .int .i64 d3] : Array Value).toList = [.int .i64 a0, .int .i64 b0, .int .i64 c0, .int .i64 d0, .int .i64 a1, .int .i64 b1, .int .i64 c1, .int .i64 d1, .int .i64 a2, .int .i64 b2, .int .i64 c2, .int .i64 d2, .int .i64 a3, .int .i64 b3, .int .i64 c3, .int .i64 d3] from rfl])
  have hba : Below u6_.heap.size u6_ (u6_.alloc (.cells #[.int .i64 0, .int .i64 0, .int .i64 0, .int .i64 0, .int .i64 0, .int .i64 0, .int .i64 0, .int .i64 0, .int .i64 0, .int .i64 0, .int .i64 0, .int .i64 0, .int .i64 0, .int .i64 0, .int .i64 0, .int .i64 0] 49)) := bal (Below.refl _ _) _
  have hb : Below u6_.heap.size u6_ ((u6_.alloc (.cells #[.int .i64 0, .int .i64 0, .int .i64 0, .int .i64 0, .int .i64 0, .int .i64 0, .int .i64 0, .int .i64 0, .int .i64 0, .int .i64 0, .int .i64 0, .int .i64 0, .int .i64 0, .int .i64 0, .int .i64 0, .int .i64 0] 49)).setCells u6_.heap.size 0 [.int .i64 a0, .int .i64 b0, .int .i64 c0, .int .i64 d0, .int .i64 a1, .int .i64 b1, .int .i64 c1, .int .i64 d1, .int .i64 a2, .int .i64 b2, .int .i64 c2, .int .i64 d2, .int .i64 a3, .int .i64 b3, .int .i64 c3, .int .i64 d3]) := below_mids (Nat.le_refl _) _ _ hba
  have hnb : ((u6_.alloc (.cells #[.int .i64 0, .int .i64 0, .int .i64 0, .int .i64 0, .int .i64 0, .int .i64 0, .int .i64 0, .int .i64 0, .int .i64 0, .int .i64 0, .int .i64 0, .int .i64 0, .int .i64 0, .int .i64 0, .int .i64 0, .int .i64 0] 49)).setCells u6_.heap.size 0 [.int .i64 a0, .int .i64 b0, .int .i64 c0, .int .i64 d0, .int .i64 a1, .int .i64 b1, .int .i64 c1, .int .i64 d1, .int .i64 a2, .int .i64 b2, .int .i64 c2, .int .i64 d2, .int .i64 a3, .int .i64 b3, .int .i64 c3, .int .i64 d3]).heap[u6_.heap.size]? = some (.cells #[.int .i64 a0, .int .i64 b0, .int .i64 c0, .int .i64 d0, .int .i64 a1, .int .i64 b1, .int .i64 c1, .int .i64 d1, .int .i64 a2, .int .i64 b2, .int .i64 c2, .int .i64 d2, .int .i64 a3, .int .i64 b3, .int .i64 c3, .int .i64 d3] 49 (0, 0)) := block_whole [.int .i64 a0, .int .i64 b0, .int .i64 c0, .int .i64 d0, .int .i64 a1, .int .i64 b1, .int .i64 c1, .int .i64 d1, .int .i64 a2, .int .i64 b2, .int .i64 c2, .int .i64 d2, .int .i64 a3, .int .i64 b3, .int .i64 c3, .int .i64 d3] (heap_alloc_new u6_ (.cells #[.int .i64 0, .int .i64 0, .int .i64 0, .int .i64 0, .int .i64 0, .int .i64 0, .int .i64 0, .int .i64 0, .int .i64 0, .int .i64 0, .int .i64 0, .int .i64 0, .int .i64 0, .int .i64 0, .int .i64 0, .int .i64 0] 49)) rfl
  have hlb : u6_.heap.size < ((u6_.alloc (.cells #[.int .i64 0, .int .i64 0, .int .i64 0, .int .i64 0, .int .i64 0, .int .i64 0, .int .i64 0, .int .i64 0, .int .i64 0, .int .i64 0, .int .i64 0, .int .i64 0, .int .i64 0, .int .i64 0, .int .i64 0, .int .i64 0] 49)).setCells u6_.heap.size 0 [.int .i64 a0, .int .i64 b0, .int .i64 c0, .int .i64 d0, .int .i64 a1, .int .i64 b1, .int .i64 c1, .int .i64 d1, .int .i64 a2, .int .i64 b2, .int .i64 c2, .int .i64 d2, .int .i64 a3, .int .i64 b3, .int .i64 c3, .int .i64 d3]).heap.size := (Array.getElem?_eq_some_iff.1 hnb).1
  have HD7 := Lib.hid (HD6.out.trans (hb.mono lw6))
  have lw7 : w.heap.size ≤ ((u6_.alloc (.cells #[.int .i64 0, .int .i64 0, .int .i64 0, .int .i64 0, .int .i64 0, .int .i64 0, .int .i64 0, .int .i64 0, .int .i64 0, .int .i64 0, .int .i64 0, .int .i64 0, .int .i64 0, .int .i64 0, .int .i64 0, .int .i64 0] 49)).setCells u6_.heap.size 0 [.int .i64 a0, .int .i64 b0, .int .i64 c0, .int .i64 d0, .int .i64 a1, .int .i64 b1, .int .i64 c1, .int .i64 d1, .int .i64 a2, .int .i64 b2, .int .i64 c2, .int .i64 d2, .int .i64 a3, .int .i64 b3, .int .i64 c3, .int .i64 d3]).heap.size := Nat.le_trans lw6 hb.size
  have Hb2_7 := Lib.hid ((hb.block _ lb2_6).trans Hb2_6.out)
  have lb2_7 : w.heap.size < ((u6_.alloc (.cells #[.int .i64 0, .int .i64 0, .int .i64 0, .int .i64 0, .int .i64 0, .int .i64 0, .int .i64 0, .int .i64 0, .int .i64 0, .int .i64 0, .int .i64 0, .int .i64 0, .int .i64 0, .int .i64 0, .int .i64 0, .int .i64 0] 49)).setCells u6_.heap.size 0 [.int .i64 a0, .int .i64 b0, .int .i64 c0, .int .i64 d0, .int .i64 a1, .int .i64 b1, .int .i64 c1, .int .i64 d1, .int .i64 a2, .int .i64 b2, .int .i64 c2, .int .i64 d2, .int .i64 a3, .int .i64 b3, .int .i64 c3, .int .i64 d3]).heap.size := Nat.lt_of_lt_of_le lb2_6 hb.size
  have Hb3_7 := Lib.hid ((hb.block _ lb3_6).trans Hb3_6.out)
  have lb3_7 : w.heap.size + 1 < ((u6_.alloc (.cells #[.int .i64 0, .int .i64 0, .int .i64 0, .int .i64 0, .int .i64 0, .int .i64 0, .int .i64 0, .int .i64 0, .int .i64 0, .int .i64 0, .int .i64 0, .int .i64 0, .int .i64 0, .int .i64 0, .int .i64 0, .int .i64 0] 49)).setCells u6_.heap.size 0 [.int .i64 a0, .int .i64 b0, .int .i64 c0, .int .i64 d0, .int .i64 a1, .int .i64 b1, .int .i64 c1, .int .i64 d1, .int .i64 a2, .int .i64 b2, .int .i64 c2, .int .i64 d2, .int .i64 a3, .int .i64 b3, .int .i64 c3, .int .i64 d3]).heap.size := Nat.lt_of_lt_of_le lb3_6 hb.size
  have Hb5_7 := Lib.hid ((hb.block _ lb5_6).trans Hb5_6.out)
  have lb5_7 : BB2 < ((u6_.alloc (.cells #[.int .i64 0, .int .i64 0, .int .i64 0, .int .i64 0, .int .i64 0, .int .i64 0, .int .i64 0, .int .i64 0, .int .i64 0, .int .i64 0, .int .i64 0, .int .i64 0, .int .i64 0, .int .i64 0, .int .i64 0, .int .i64 0] 49)).setCells u6_.heap.size 0 [.int .i64 a0, .int .i64 b0, .int .i64 c0, .int .i64 d0, .int .i64 a1, .int .i64 b1, .int .i64 c1, .int .i64 d1, .int .i64 a2, .int .i64 b2, .int .i64 c2, .int .i64 d2, .int .i64 a3, .int .i64 b3, .int .i64 c3, .int .i64 d3]).heap.size := Nat.lt_of_lt_of_le lb5_6 hb.size
  have Hb7_7 := Lib.hid ((hb.block _ lb7_6).trans Hb7_6.out)
  have lb7_7 : BB4 < ((u6_.alloc (.cells #[.int .i64 0, .int .i64 0, .int .i64 0, .int .i64 0, .int .i64 0, .int .i64 0, .int .i64 0, .int .i64 0, .int .i64 0, .int .i64 0, .int .i64 0, .int .i64 0, .int .i64 0, .int .i64 0, .int .i64 0, .int .i64 0] 49)).setCells u6_.heap.size 0 [.int .i64 a0, .int .i64 b0, .int .i64 c0, .int .i64 d0, .int .i64 a1, .int .i64 b1, .int .i64 c1, .int .i64 d1, .int .i64 a2, .int .i64 b2, .int .i64 c2, .int .i64 d2, .int .i64 a3, .int .i64 b3, .int .i64 c3, .int .i64 d3]).heap.size := Nat.lt_of_lt_of_le lb7_6 hb.size
  have Hb9_7 := Lib.hid ((hb.block _ lb9_6).trans Hb9_6.out)
  have lb9_7 : BB5 < ((u6_.alloc (.cells #[.int .i64 0, .int .i64 0, .int .i64 0, .int .i64 0, .int .i64 0, .int .i64 0, .int .i64 0, .int .i64 0, .int .i64 0, .int .i64 0, .int .i64 0, .int .i64 0, .int .i64 0, .int .i64 0, .int .i64 0, .int .i64 0] 49)).setCells u6_.heap.size 0 [.int .i64 a0, .int .i64 b0, .int .i64 c0, .int .i64 d0, .int .i64 a1, .int .i64 b1, .int .i64 c1, .int .i64 d1, .int .i64 a2, .int .i64 b2, .int .i64 c2, .int .i64 d2, .int .i64 a3, .int .i64 b3, .int .i64 c3, .int .i64 d3]).heap.size := Nat.lt_of_lt_of_le lb9_6 hb.size
  have Hb10_7 := Lib.hid hnb
  have lb10_7 := hlb
  clear hb hba hnb hlb HTH HD6 lw6 Hb2_6 lb2_6 Hb3_6 lb3_6 Hb5_6 lb5_6 Hb7_6 lb7_6 Hb9_6 lb9_6
  generalize ((u6_.alloc (.cells #[.int .i64 0, .int .i64 0, .int .i64 0, .int .i64 0, .int .i64 0, .int .i64 0, .int .i64 0, .int .i64 0, .int .i64 0, .int .i64 0, .int .i64 0, .int .i64 0, .int .i64 0, .int .i64 0, .int .i64 0, .int .i64 0] 49)).setCells u6_.heap.size 0 [.int .i64 a0, .int .i64 b0, .int .i64 c0, .int .i64 d0, .int .i64 a1, .int .i64 b1, .int .i64 c1, .int .i64 d1, .int .i64 a2, .int .i64 b2, .int .i64 c2, .int .i64 d2, .int .i64 a3, .int .i64 b3, .int .i64 c3, .int .i64 d3]) = U7 at *
  generalize u6_.heap.size = BB7 at *
  refine wpList_step (fun K hK => ?_); go_simp; refine hK _ _ ?_; clear hK K
  refine wpList_nil ?_
  go_wp2_with fail
  refine wp_loop_rounds 3 ?_
  rw [rounds_succ]
  go_wp2_with fail
  refine wp_loop_rounds 3 ?_
  rw [rounds_succ]
  go_upto_region 16 with fail
  refine wp_region_held_drew (S := fun w' => w'.heap[w.heap.size]? = some (.cells #[.int .i64 a0, .int .i64 b0, .int .i64 c0, .int .i64 d0, .int .i64 a1, .int .i64 b1, .int .i64 c1, .int .i64 d1, .int .i64 a2, .int .i64 b2, .int .i64 c2, .int .i64 d2, .int .i64 a3, .int .i64 b3, .int .i64 c3, .int .i64 d3] 49 (0, 0)) ∧ w'.heap[BB7]? = some (.cells #[.int .i64 a0, .int .i64 b0, .int .i64 c0, .int .i64 d0, .int .i64 a1, .int .i64 b1, .int .i64 c1, .int .i64 d1, .int .i64 a2, .int .i64 b2, .int .i64 c2, .int .i64 d2, .int .i64 a3, .int .i64 b3, .int .i64 c3, .int .i64 d3] 49 (0, 0))) (by kernel_rfl) ⟨Hb2_7.out, Hb10_7.out⟩ (fun hHeld => ?_)
  refine wpAnyH_take (i := 0) (oi := _) (v := ?_) rfl (by kernel_rfl) (by kernel_rfl) (by kernel_rfl) (fun _ _ _ h => h) (Or.inl ⟨by rfl, ?_⟩) (by assumption) ?_
  rotate_left
  · intro w _; go_simp; (try with_reducible rfl)
  try change wpAnyH _ _ _ _ _ _ _ (Act.put _ (some 67) _) _
  try simp only [act_all]
  refine wpAnyH_take (i := 1) (oi := _) (v := ?_) rfl (by kernel_rfl) (by kernel_rfl) (by kernel_rfl) (fun _ _ _ h => h) (Or.inl ⟨by rfl, ?_⟩) (by assumption) ?_
  rotate_left
  · intro w _; go_simp; (try with_reducible rfl)
  try change wpAnyH _ _ _ _ _ _ _ (Act.put _ (some 68) _) _
  try simp only [act_all]
  refine wpAnyH_take (i := 2) (oi := _) (v := ?_) rfl (by kernel_rfl) (by kernel_rfl) (by kernel_rfl) (fun _ _ _ h => h) (Or.inl ⟨by rfl, ?_⟩) (by assumption) ?_
  rotate_left
  · intro w _; go_simp; (try with_reducible rfl)
  try change wpAnyH _ _ _ _ _ _ _ (Act.put _ (some 69) _) _
  try simp only [act_all]
  refine wpAnyH_take (i := 3) (oi := _) (v := ?_) rfl (by kernel_rfl) (by kernel_rfl) (by kernel_rfl) (fun _ _ _ h => h) (Or.inl ⟨by rfl, ?_⟩) (by assumption) ?_
  rotate_left
  · intro w _; go_simp; (try with_reducible rfl)
  try change wpAnyH _ _ _ _ _ _ _ (Act.put _ (some 70) _) _
  try simp only [act_all]
  refine wpAnyH_take (i := 4) (oi := _) (v := ?_) rfl (by kernel_rfl) (by kernel_rfl) (by kernel_rfl) (fun _ _ _ h => h) (Or.inl ⟨by rfl, ?_⟩) (by assumption) ?_
  rotate_left
  · intro w _; go_simp; (try with_reducible rfl)
  try change wpAnyH _ _ _ _ _ _ _ (Act.put _ (some 71) _) _
  try simp only [act_all]
  refine wpAnyH_take (i := 5) (oi := _) (v := _) rfl (by kernel_rfl) (by kernel_rfl) (by kernel_rfl) (fun _ _ _ h => h) (yieldsIf_load_mid (by rfl) 25 _ rfl (w.heap.size) 0 rfl [.int .i64 a0, .int .i64 b0, .int .i64 c0, .int .i64 d0] _ (fun w' h => range_row h.1 0 [.int .i64 a0, .int .i64 b0, .int .i64 c0, .int .i64 d0] (fun j hj => by rcases four_at (by simpa using hj) with rfl | rfl | rfl | rfl <;> rfl)) Try.underlying25 rfl (by kernel_rfl)) (by assumption) ?_
  try change wpAnyH _ _ _ _ _ _ _ (Act.put _ (some 72) _) _
  try simp only [act_all]
  refine wpAnyH_take (i := 6) (oi := _) (v := ?_) rfl (by kernel_rfl) (by kernel_rfl) (by kernel_rfl) (fun _ _ _ h => h) (Or.inl ⟨by rfl, ?_⟩) (by assumption) ?_
  rotate_left
  · intro w _; go_simp; (try with_reducible rfl)
  try change wpAnyH _ _ _ _ _ _ _ (Act.put _ (some 73) _) _
  try simp only [act_all]
  refine wpAnyH_take (i := 7) (oi := _) (v := ?_) rfl (by kernel_rfl) (by kernel_rfl) (by kernel_rfl) (fun _ _ _ h => h) (Or.inl ⟨by rfl, ?_⟩) (by assumption) ?_
  rotate_left
  · intro w _; go_simp; (try with_reducible rfl)
  try change wpAnyH _ _ _ _ _ _ _ (Act.put _ (some 74) _) _
  try simp only [act_all]
  refine wpAnyH_take (i := 8) (oi := _) (v := ?_) rfl (by kernel_rfl) (by kernel_rfl) (by kernel_rfl) (fun _ _ _ h => h) (Or.inl ⟨by rfl, ?_⟩) (by assumption) ?_
  rotate_left
  · intro w _; go_simp; (try with_reducible rfl)
  try change wpAnyH _ _ _ _ _ _ _ (Act.put _ (some 75) _) _
  try simp only [act_all]
  refine wpAnyH_take (i := 9) (oi := _) (v := ?_) rfl (by kernel_rfl) (by kernel_rfl) (by kernel_rfl) (fun _ _ _ h => h) (Or.inl ⟨by rfl, ?_⟩) (by assumption) ?_
  rotate_left
  · intro w _; go_simp; (try with_reducible rfl)
  try change wpAnyH _ _ _ _ _ _ _ (Act.put _ (some 76) _) _
  try simp only [act_all]
  refine wpAnyH_take (i := 10) (oi := _) (v := ?_) rfl (by kernel_rfl) (by kernel_rfl) (by kernel_rfl) (fun _ _ _ h => h) (Or.inl ⟨by rfl, ?_⟩) (by assumption) ?_
  rotate_left
  · intro w _; go_simp; (try with_reducible rfl)
  try change wpAnyH _ _ _ _ _ _ _ (Act.put _ (some 77) _) _
  try simp only [act_all]
  refine wpAnyH_take (i := 11) (oi := _) (v := _) rfl (by kernel_rfl) (by kernel_rfl) (by kernel_rfl) (fun _ _ _ h => h) (yieldsIf_load_mid (by rfl) 25 _ rfl (BB7) 0 rfl [.int .i64 a0, .int .i64 b0, .int .i64 c0, .int .i64 d0] _ (fun w' h => range_row h.2 0 [.int .i64 a0, .int .i64 b0, .int .i64 c0, .int .i64 d0] (fun j hj => by rcases four_at (by simpa using hj) with rfl | rfl | rfl | rfl <;> rfl)) Try.underlying25 rfl (by kernel_rfl)) (by assumption) ?_
  try change wpAnyH _ _ _ _ _ _ _ (Act.put _ (some 78) _) _
  try simp only [act_all]
  refine wpAnyH_ready (rs := [12]) (by kernel_rfl) (by simp) ?_
  refine AllReadyH.cons (o := _) rfl (fun K hK => ?_) AllReadyH.nil
  go_simp
  refine (inL_any a0 b0 c0 d0 a0 b0 c0 d0 _).mono ?_
  rw [HI0.out]
  rintro e v0 ⟨rfl, hb⟩
  have hb : Below U7.heap.size U7 v0 := (Below.refl _ _).drew.trans hb
  clear hHeld
  have HD8 := Lib.hid (HD7.out.trans (hb.mono lw7))
  have lw8 : w.heap.size ≤ v0.heap.size := Nat.le_trans lw7 hb.size
  have Hb2_8 := Lib.hid ((hb.block _ lb2_7).trans Hb2_7.out)
  have lb2_8 : w.heap.size < v0.heap.size := Nat.lt_of_lt_of_le lb2_7 hb.size
  have Hb3_8 := Lib.hid ((hb.block _ lb3_7).trans Hb3_7.out)
  have lb3_8 : w.heap.size + 1 < v0.heap.size := Nat.lt_of_lt_of_le lb3_7 hb.size
  have Hb5_8 := Lib.hid ((hb.block _ lb5_7).trans Hb5_7.out)
  have lb5_8 : BB2 < v0.heap.size := Nat.lt_of_lt_of_le lb5_7 hb.size
  have Hb7_8 := Lib.hid ((hb.block _ lb7_7).trans Hb7_7.out)
  have lb7_8 : BB4 < v0.heap.size := Nat.lt_of_lt_of_le lb7_7 hb.size
  have Hb9_8 := Lib.hid ((hb.block _ lb9_7).trans Hb9_7.out)
  have lb9_8 : BB5 < v0.heap.size := Nat.lt_of_lt_of_le lb9_7 hb.size
  have Hb10_8 := Lib.hid ((hb.block _ lb10_7).trans Hb10_7.out)
  have lb10_8 : BB7 < v0.heap.size := Nat.lt_of_lt_of_le lb10_7 hb.size
  clear hb HD7 lw7 Hb2_7 lb2_7 Hb3_7 lb3_7 Hb5_7 lb5_7 Hb7_7 lb7_7 Hb9_7 lb9_7 Hb10_7 lb10_7
  refine hK.out _ _ ⟨Hb2_8.out, Hb10_8.out⟩ (fun hHeld => ?_)
  clear hK K
  try simp only [act_all]
  refine wpAnyH_take (i := 13) (oi := _) (v := ?_) rfl (by kernel_rfl) (by kernel_rfl) (by kernel_rfl) (fun _ _ _ h => h) (Or.inl ⟨by rfl, ?_⟩) (by assumption) ?_
  rotate_left
  · intro w _; go_simp; (try with_reducible rfl)
  try change wpAnyH _ _ _ _ _ _ _ (Act.put _ (some 80) _) _
  try simp only [act_all]
  refine wpAnyH_done (by kernel_rfl) ?_ _
  clear hHeld
  go_wp2_with fail
  rw [rounds_succ]
  go_upto_region 16 with fail
  refine wp_region_held_drew (S := fun w' => w'.heap[w.heap.size]? = some (.cells #[.int .i64 a0, .int .i64 b0, .int .i64 c0, .int .i64 d0, .int .i64 a1, .int .i64 b1, .int .i64 c1, .int .i64 d1, .int .i64 a2, .int .i64 b2, .int .i64 c2, .int .i64 d2, .int .i64 a3, .int .i64 b3, .int .i64 c3, .int .i64 d3] 49 (0, 0)) ∧ w'.heap[BB7]? = some (.cells #[.int .i64 a0, .int .i64 b0, .int .i64 c0, .int .i64 d0, .int .i64 a1, .int .i64 b1, .int .i64 c1, .int .i64 d1, .int .i64 a2, .int .i64 b2, .int .i64 c2, .int .i64 d2, .int .i64 a3, .int .i64 b3, .int .i64 c3, .int .i64 d3] 49 (0, 0))) (by kernel_rfl) ⟨Hb2_8.out, Hb10_8.out⟩ (fun hHeld => ?_)
  refine wpAnyH_take (i := 0) (oi := _) (v := ?_) rfl (by kernel_rfl) (by kernel_rfl) (by kernel_rfl) (fun _ _ _ h => h) (Or.inl ⟨by rfl, ?_⟩) (by assumption) ?_
  rotate_left
  · intro w _; go_simp; (try with_reducible rfl)
  try change wpAnyH _ _ _ _ _ _ _ (Act.put _ (some 67) _) _
  try simp only [act_all]
  refine wpAnyH_take (i := 1) (oi := _) (v := ?_) rfl (by kernel_rfl) (by kernel_rfl) (by kernel_rfl) (fun _ _ _ h => h) (Or.inl ⟨by rfl, ?_⟩) (by assumption) ?_
  rotate_left
  · intro w _; go_simp; (try with_reducible rfl)
  try change wpAnyH _ _ _ _ _ _ _ (Act.put _ (some 68) _) _
  try simp only [act_all]
  refine wpAnyH_take (i := 2) (oi := _) (v := ?_) rfl (by kernel_rfl) (by kernel_rfl) (by kernel_rfl) (fun _ _ _ h => h) (Or.inl ⟨by rfl, ?_⟩) (by assumption) ?_
  rotate_left
  · intro w _; go_simp; (try with_reducible rfl)
  try change wpAnyH _ _ _ _ _ _ _ (Act.put _ (some 69) _) _
  try simp only [act_all]
  refine wpAnyH_take (i := 3) (oi := _) (v := ?_) rfl (by kernel_rfl) (by kernel_rfl) (by kernel_rfl) (fun _ _ _ h => h) (Or.inl ⟨by rfl, ?_⟩) (by assumption) ?_
  rotate_left
  · intro w _; go_simp; (try with_reducible rfl)
  try change wpAnyH _ _ _ _ _ _ _ (Act.put _ (some 70) _) _
  try simp only [act_all]
  refine wpAnyH_take (i := 4) (oi := _) (v := ?_) rfl (by kernel_rfl) (by kernel_rfl) (by kernel_rfl) (fun _ _ _ h => h) (Or.inl ⟨by rfl, ?_⟩) (by assumption) ?_
  rotate_left
  · intro w _; go_simp; (try with_reducible rfl)
  try change wpAnyH _ _ _ _ _ _ _ (Act.put _ (some 71) _) _
  try simp only [act_all]
  refine wpAnyH_take (i := 5) (oi := _) (v := _) rfl (by kernel_rfl) (by kernel_rfl) (by kernel_rfl) (fun _ _ _ h => h) (yieldsIf_load_mid (by rfl) 25 _ rfl (w.heap.size) 4 rfl [.int .i64 a1, .int .i64 b1, .int .i64 c1, .int .i64 d1] _ (fun w' h => range_row h.1 4 [.int .i64 a1, .int .i64 b1, .int .i64 c1, .int .i64 d1] (fun j hj => by rcases four_at (by simpa using hj) with rfl | rfl | rfl | rfl <;> rfl)) Try.underlying25 rfl (by kernel_rfl)) (by assumption) ?_
  try change wpAnyH _ _ _ _ _ _ _ (Act.put _ (some 72) _) _
  try simp only [act_all]
  refine wpAnyH_take (i := 6) (oi := _) (v := ?_) rfl (by kernel_rfl) (by kernel_rfl) (by kernel_rfl) (fun _ _ _ h => h) (Or.inl ⟨by rfl, ?_⟩) (by assumption) ?_
  rotate_left
  · intro w _; go_simp; (try with_reducible rfl)
  try change wpAnyH _ _ _ _ _ _ _ (Act.put _ (some 73) _) _
  try simp only [act_all]
  refine wpAnyH_take (i := 7) (oi := _) (v := ?_) rfl (by kernel_rfl) (by kernel_rfl) (by kernel_rfl) (fun _ _ _ h => h) (Or.inl ⟨by rfl, ?_⟩) (by assumption) ?_
  rotate_left
  · intro w _; go_simp; (try with_reducible rfl)
  try change wpAnyH _ _ _ _ _ _ _ (Act.put _ (some 74) _) _
  try simp only [act_all]
  refine wpAnyH_take (i := 8) (oi := _) (v := ?_) rfl (by kernel_rfl) (by kernel_rfl) (by kernel_rfl) (fun _ _ _ h => h) (Or.inl ⟨by rfl, ?_⟩) (by assumption) ?_
  rotate_left
  · intro w _; go_simp; (try with_reducible rfl)
  try change wpAnyH _ _ _ _ _ _ _ (Act.put _ (some 75) _) _
  try simp only [act_all]
  refine wpAnyH_take (i := 9) (oi := _) (v := ?_) rfl (by kernel_rfl) (by kernel_rfl) (by kernel_rfl) (fun _ _ _ h => h) (Or.inl ⟨by rfl, ?_⟩) (by assumption) ?_
  rotate_left
  · intro w _; go_simp; (try with_reducible rfl)
  try change wpAnyH _ _ _ _ _ _ _ (Act.put _ (some 76) _) _
  try simp only [act_all]
  refine wpAnyH_take (i := 10) (oi := _) (v := ?_) rfl (by kernel_rfl) (by kernel_rfl) (by kernel_rfl) (fun _ _ _ h => h) (Or.inl ⟨by rfl, ?_⟩) (by assumption) ?_
  rotate_left
  · intro w _; go_simp; (try with_reducible rfl)
  try change wpAnyH _ _ _ _ _ _ _ (Act.put _ (some 77) _) _
  try simp only [act_all]
  refine wpAnyH_take (i := 11) (oi := _) (v := _) rfl (by kernel_rfl) (by kernel_rfl) (by kernel_rfl) (fun _ _ _ h => h) (yieldsIf_load_mid (by rfl) 25 _ rfl (BB7) 4 rfl [.int .i64 a1, .int .i64 b1, .int .i64 c1, .int .i64 d1] _ (fun w' h => range_row h.2 4 [.int .i64 a1, .int .i64 b1, .int .i64 c1, .int .i64 d1] (fun j hj => by rcases four_at (by simpa using hj) with rfl | rfl | rfl | rfl <;> rfl)) Try.underlying25 rfl (by kernel_rfl)) (by assumption) ?_
  try change wpAnyH _ _ _ _ _ _ _ (Act.put _ (some 78) _) _
  try simp only [act_all]
  refine wpAnyH_ready (rs := [12]) (by kernel_rfl) (by simp) ?_
  refine AllReadyH.cons (o := _) rfl (fun K hK => ?_) AllReadyH.nil
  go_simp
  refine (inL_any a1 b1 c1 d1 a1 b1 c1 d1 _).mono ?_
  rw [HI1.out]
  rintro e v1 ⟨rfl, hb⟩
  have hb : Below v0.heap.size v0 v1 := (Below.refl _ _).drew.trans hb
  clear hHeld
  have HD9 := Lib.hid (HD8.out.trans (hb.mono lw8))
  have lw9 : w.heap.size ≤ v1.heap.size := Nat.le_trans lw8 hb.size
  have Hb2_9 := Lib.hid ((hb.block _ lb2_8).trans Hb2_8.out)
  have lb2_9 : w.heap.size < v1.heap.size := Nat.lt_of_lt_of_le lb2_8 hb.size
  have Hb3_9 := Lib.hid ((hb.block _ lb3_8).trans Hb3_8.out)
  have lb3_9 : w.heap.size + 1 < v1.heap.size := Nat.lt_of_lt_of_le lb3_8 hb.size
  have Hb5_9 := Lib.hid ((hb.block _ lb5_8).trans Hb5_8.out)
  have lb5_9 : BB2 < v1.heap.size := Nat.lt_of_lt_of_le lb5_8 hb.size
  have Hb7_9 := Lib.hid ((hb.block _ lb7_8).trans Hb7_8.out)
  have lb7_9 : BB4 < v1.heap.size := Nat.lt_of_lt_of_le lb7_8 hb.size
  have Hb9_9 := Lib.hid ((hb.block _ lb9_8).trans Hb9_8.out)
  have lb9_9 : BB5 < v1.heap.size := Nat.lt_of_lt_of_le lb9_8 hb.size
  have Hb10_9 := Lib.hid ((hb.block _ lb10_8).trans Hb10_8.out)
  have lb10_9 : BB7 < v1.heap.size := Nat.lt_of_lt_of_le lb10_8 hb.size
  clear hb HD8 lw8 Hb2_8 lb2_8 Hb3_8 lb3_8 Hb5_8 lb5_8 Hb7_8 lb7_8 Hb9_8 lb9_8 Hb10_8 lb10_8
  refine hK.out _ _ ⟨Hb2_9.out, Hb10_9.out⟩ (fun hHeld => ?_)
  clear hK K
  try simp only [act_all]
  refine wpAnyH_take (i := 13) (oi := _) (v := ?_) rfl (by kernel_rfl) (by kernel_rfl) (by kernel_rfl) (fun _ _ _ h => h) (Or.inl ⟨by rfl, ?_⟩) (by assumption) ?_
  rotate_left
  · intro w _; go_simp; (try with_reducible rfl)
  try change wpAnyH _ _ _ _ _ _ _ (Act.put _ (some 80) _) _
  try simp only [act_all]
  refine wpAnyH_done (by kernel_rfl) ?_ _
  clear hHeld
  go_wp2_with fail
  rw [rounds_succ]
  go_wp2_with fail
  rw [rounds_succ]
  go_wp2_with fail
  refine wp_loop_rounds 3 ?_
  rw [rounds_succ]
  go_upto_region 16 with fail
  refine wp_region_held_drew (S := fun w' => w'.heap[w.heap.size]? = some (.cells #[.int .i64 a0, .int .i64 b0, .int .i64 c0, .int .i64 d0, .int .i64 a1, .int .i64 b1, .int .i64 c1, .int .i64 d1, .int .i64 a2, .int .i64 b2, .int .i64 c2, .int .i64 d2, .int .i64 a3, .int .i64 b3, .int .i64 c3, .int .i64 d3] 49 (0, 0)) ∧ w'.heap[BB7]? = some (.cells #[.int .i64 a0, .int .i64 b0, .int .i64 c0, .int .i64 d0, .int .i64 a1, .int .i64 b1, .int .i64 c1, .int .i64 d1, .int .i64 a2, .int .i64 b2, .int .i64 c2, .int .i64 d2, .int .i64 a3, .int .i64 b3, .int .i64 c3, .int .i64 d3] 49 (0, 0))) (by kernel_rfl) ⟨Hb2_9.out, Hb10_9.out⟩ (fun hHeld => ?_)
  refine wpAnyH_take (i := 0) (oi := _) (v := ?_) rfl (by kernel_rfl) (by kernel_rfl) (by kernel_rfl) (fun _ _ _ h => h) (Or.inl ⟨by rfl, ?_⟩) (by assumption) ?_
  rotate_left
  · intro w _; go_simp; (try with_reducible rfl)
  try change wpAnyH _ _ _ _ _ _ _ (Act.put _ (some 67) _) _
  try simp only [act_all]
  refine wpAnyH_take (i := 1) (oi := _) (v := ?_) rfl (by kernel_rfl) (by kernel_rfl) (by kernel_rfl) (fun _ _ _ h => h) (Or.inl ⟨by rfl, ?_⟩) (by assumption) ?_
  rotate_left
  · intro w _; go_simp; (try with_reducible rfl)
  try change wpAnyH _ _ _ _ _ _ _ (Act.put _ (some 68) _) _
  try simp only [act_all]
  refine wpAnyH_take (i := 2) (oi := _) (v := ?_) rfl (by kernel_rfl) (by kernel_rfl) (by kernel_rfl) (fun _ _ _ h => h) (Or.inl ⟨by rfl, ?_⟩) (by assumption) ?_
  rotate_left
  · intro w _; go_simp; (try with_reducible rfl)
  try change wpAnyH _ _ _ _ _ _ _ (Act.put _ (some 69) _) _
  try simp only [act_all]
  refine wpAnyH_take (i := 3) (oi := _) (v := ?_) rfl (by kernel_rfl) (by kernel_rfl) (by kernel_rfl) (fun _ _ _ h => h) (Or.inl ⟨by rfl, ?_⟩) (by assumption) ?_
  rotate_left
  · intro w _; go_simp; (try with_reducible rfl)
  try change wpAnyH _ _ _ _ _ _ _ (Act.put _ (some 70) _) _
  try simp only [act_all]
  refine wpAnyH_take (i := 4) (oi := _) (v := ?_) rfl (by kernel_rfl) (by kernel_rfl) (by kernel_rfl) (fun _ _ _ h => h) (Or.inl ⟨by rfl, ?_⟩) (by assumption) ?_
  rotate_left
  · intro w _; go_simp; (try with_reducible rfl)
  try change wpAnyH _ _ _ _ _ _ _ (Act.put _ (some 71) _) _
  try simp only [act_all]
  refine wpAnyH_take (i := 5) (oi := _) (v := _) rfl (by kernel_rfl) (by kernel_rfl) (by kernel_rfl) (fun _ _ _ h => h) (yieldsIf_load_mid (by rfl) 25 _ rfl (w.heap.size) 8 rfl [.int .i64 a2, .int .i64 b2, .int .i64 c2, .int .i64 d2] _ (fun w' h => range_row h.1 8 [.int .i64 a2, .int .i64 b2, .int .i64 c2, .int .i64 d2] (fun j hj => by rcases four_at (by simpa using hj) with rfl | rfl | rfl | rfl <;> rfl)) Try.underlying25 rfl (by kernel_rfl)) (by assumption) ?_
  try change wpAnyH _ _ _ _ _ _ _ (Act.put _ (some 72) _) _
  try simp only [act_all]
  refine wpAnyH_take (i := 6) (oi := _) (v := ?_) rfl (by kernel_rfl) (by kernel_rfl) (by kernel_rfl) (fun _ _ _ h => h) (Or.inl ⟨by rfl, ?_⟩) (by assumption) ?_
  rotate_left
  · intro w _; go_simp; (try with_reducible rfl)
  try change wpAnyH _ _ _ _ _ _ _ (Act.put _ (some 73) _) _
  try simp only [act_all]
  refine wpAnyH_take (i := 7) (oi := _) (v := ?_) rfl (by kernel_rfl) (by kernel_rfl) (by kernel_rfl) (fun _ _ _ h => h) (Or.inl ⟨by rfl, ?_⟩) (by assumption) ?_
  rotate_left
  · intro w _; go_simp; (try with_reducible rfl)
  try change wpAnyH _ _ _ _ _ _ _ (Act.put _ (some 74) _) _
  try simp only [act_all]
  refine wpAnyH_take (i := 8) (oi := _) (v := ?_) rfl (by kernel_rfl) (by kernel_rfl) (by kernel_rfl) (fun _ _ _ h => h) (Or.inl ⟨by rfl, ?_⟩) (by assumption) ?_
  rotate_left
  · intro w _; go_simp; (try with_reducible rfl)
  try change wpAnyH _ _ _ _ _ _ _ (Act.put _ (some 75) _) _
  try simp only [act_all]
  refine wpAnyH_take (i := 9) (oi := _) (v := ?_) rfl (by kernel_rfl) (by kernel_rfl) (by kernel_rfl) (fun _ _ _ h => h) (Or.inl ⟨by rfl, ?_⟩) (by assumption) ?_
  rotate_left
  · intro w _; go_simp; (try with_reducible rfl)
  try change wpAnyH _ _ _ _ _ _ _ (Act.put _ (some 76) _) _
  try simp only [act_all]
  refine wpAnyH_take (i := 10) (oi := _) (v := ?_) rfl (by kernel_rfl) (by kernel_rfl) (by kernel_rfl) (fun _ _ _ h => h) (Or.inl ⟨by rfl, ?_⟩) (by assumption) ?_
  rotate_left
  · intro w _; go_simp; (try with_reducible rfl)
  try change wpAnyH _ _ _ _ _ _ _ (Act.put _ (some 77) _) _
  try simp only [act_all]
  refine wpAnyH_take (i := 11) (oi := _) (v := _) rfl (by kernel_rfl) (by kernel_rfl) (by kernel_rfl) (fun _ _ _ h => h) (yieldsIf_load_mid (by rfl) 25 _ rfl (BB7) 8 rfl [.int .i64 a2, .int .i64 b2, .int .i64 c2, .int .i64 d2] _ (fun w' h => range_row h.2 8 [.int .i64 a2, .int .i64 b2, .int .i64 c2, .int .i64 d2] (fun j hj => by rcases four_at (by simpa using hj) with rfl | rfl | rfl | rfl <;> rfl)) Try.underlying25 rfl (by kernel_rfl)) (by assumption) ?_
  try change wpAnyH _ _ _ _ _ _ _ (Act.put _ (some 78) _) _
  try simp only [act_all]
  refine wpAnyH_ready (rs := [12]) (by kernel_rfl) (by simp) ?_
  refine AllReadyH.cons (o := _) rfl (fun K hK => ?_) AllReadyH.nil
  go_simp
  refine (inL_any a2 b2 c2 d2 a2 b2 c2 d2 _).mono ?_
  rw [HI2.out]
  rintro e v2 ⟨rfl, hb⟩
  have hb : Below v1.heap.size v1 v2 := (Below.refl _ _).drew.trans hb
  clear hHeld
  have HD10 := Lib.hid (HD9.out.trans (hb.mono lw9))
  have lw10 : w.heap.size ≤ v2.heap.size := Nat.le_trans lw9 hb.size
  have Hb2_10 := Lib.hid ((hb.block _ lb2_9).trans Hb2_9.out)
  have lb2_10 : w.heap.size < v2.heap.size := Nat.lt_of_lt_of_le lb2_9 hb.size
  have Hb3_10 := Lib.hid ((hb.block _ lb3_9).trans Hb3_9.out)
  have lb3_10 : w.heap.size + 1 < v2.heap.size := Nat.lt_of_lt_of_le lb3_9 hb.size
  have Hb5_10 := Lib.hid ((hb.block _ lb5_9).trans Hb5_9.out)
  have lb5_10 : BB2 < v2.heap.size := Nat.lt_of_lt_of_le lb5_9 hb.size
  have Hb7_10 := Lib.hid ((hb.block _ lb7_9).trans Hb7_9.out)
  have lb7_10 : BB4 < v2.heap.size := Nat.lt_of_lt_of_le lb7_9 hb.size
  have Hb9_10 := Lib.hid ((hb.block _ lb9_9).trans Hb9_9.out)
  have lb9_10 : BB5 < v2.heap.size := Nat.lt_of_lt_of_le lb9_9 hb.size
  have Hb10_10 := Lib.hid ((hb.block _ lb10_9).trans Hb10_9.out)
  have lb10_10 : BB7 < v2.heap.size := Nat.lt_of_lt_of_le lb10_9 hb.size
  clear hb HD9 lw9 Hb2_9 lb2_9 Hb3_9 lb3_9 Hb5_9 lb5_9 Hb7_9 lb7_9 Hb9_9 lb9_9 Hb10_9 lb10_9
  refine hK.out _ _ ⟨Hb2_10.out, Hb10_10.out⟩ (fun hHeld => ?_)
  clear hK K
  try simp only [act_all]
  refine wpAnyH_take (i := 13) (oi := _) (v := ?_) rfl (by kernel_rfl) (by kernel_rfl) (by kernel_rfl) (fun _ _ _ h => h) (Or.inl ⟨by rfl, ?_⟩) (by assumption) ?_
  rotate_left
  · intro w _; go_simp; (try with_reducible rfl)
  try change wpAnyH _ _ _ _ _ _ _ (Act.put _ (some 80) _) _
  try simp only [act_all]
  refine wpAnyH_done (by kernel_rfl) ?_ _
  clear hHeld
  go_wp2_with fail
  rw [rounds_succ]
  go_upto_region 16 with fail
  refine wp_region_held_drew (S := fun w' => w'.heap[w.heap.size]? = some (.cells #[.int .i64 a0, .int .i64 b0, .int .i64 c0, .int .i64 d0, .int .i64 a1, .int .i64 b1, .int .i64 c1, .int .i64 d1, .int .i64 a2, .int .i64 b2, .int .i64 c2, .int .i64 d2, .int .i64 a3, .int .i64 b3, .int .i64 c3, .int .i64 d3] 49 (0, 0)) ∧ w'.heap[BB7]? = some (.cells #[.int .i64 a0, .int .i64 b0, .int .i64 c0, .int .i64 d0, .int .i64 a1, .int .i64 b1, .int .i64 c1, .int .i64 d1, .int .i64 a2, .int .i64 b2, .int .i64 c2, .int .i64 d2, .int .i64 a3, .int .i64 b3, .int .i64 c3, .int .i64 d3] 49 (0, 0))) (by kernel_rfl) ⟨Hb2_10.out, Hb10_10.out⟩ (fun hHeld => ?_)
  refine wpAnyH_take (i := 0) (oi := _) (v := ?_) rfl (by kernel_rfl) (by kernel_rfl) (by kernel_rfl) (fun _ _ _ h => h) (Or.inl ⟨by rfl, ?_⟩) (by assumption) ?_
  rotate_left
  · intro w _; go_simp; (try with_reducible rfl)
  try change wpAnyH _ _ _ _ _ _ _ (Act.put _ (some 67) _) _
  try simp only [act_all]
  refine wpAnyH_take (i := 1) (oi := _) (v := ?_) rfl (by kernel_rfl) (by kernel_rfl) (by kernel_rfl) (fun _ _ _ h => h) (Or.inl ⟨by rfl, ?_⟩) (by assumption) ?_
  rotate_left
  · intro w _; go_simp; (try with_reducible rfl)
  try change wpAnyH _ _ _ _ _ _ _ (Act.put _ (some 68) _) _
  try simp only [act_all]
  refine wpAnyH_take (i := 2) (oi := _) (v := ?_) rfl (by kernel_rfl) (by kernel_rfl) (by kernel_rfl) (fun _ _ _ h => h) (Or.inl ⟨by rfl, ?_⟩) (by assumption) ?_
  rotate_left
  · intro w _; go_simp; (try with_reducible rfl)
  try change wpAnyH _ _ _ _ _ _ _ (Act.put _ (some 69) _) _
  try simp only [act_all]
  refine wpAnyH_take (i := 3) (oi := _) (v := ?_) rfl (by kernel_rfl) (by kernel_rfl) (by kernel_rfl) (fun _ _ _ h => h) (Or.inl ⟨by rfl, ?_⟩) (by assumption) ?_
  rotate_left
  · intro w _; go_simp; (try with_reducible rfl)
  try change wpAnyH _ _ _ _ _ _ _ (Act.put _ (some 70) _) _
  try simp only [act_all]
  refine wpAnyH_take (i := 4) (oi := _) (v := ?_) rfl (by kernel_rfl) (by kernel_rfl) (by kernel_rfl) (fun _ _ _ h => h) (Or.inl ⟨by rfl, ?_⟩) (by assumption) ?_
  rotate_left
  · intro w _; go_simp; (try with_reducible rfl)
  try change wpAnyH _ _ _ _ _ _ _ (Act.put _ (some 71) _) _
  try simp only [act_all]
  refine wpAnyH_take (i := 5) (oi := _) (v := _) rfl (by kernel_rfl) (by kernel_rfl) (by kernel_rfl) (fun _ _ _ h => h) (yieldsIf_load_mid (by rfl) 25 _ rfl (w.heap.size) 12 rfl [.int .i64 a3, .int .i64 b3, .int .i64 c3, .int .i64 d3] _ (fun w' h => range_row h.1 12 [.int .i64 a3, .int .i64 b3, .int .i64 c3, .int .i64 d3] (fun j hj => by rcases four_at (by simpa using hj) with rfl | rfl | rfl | rfl <;> rfl)) Try.underlying25 rfl (by kernel_rfl)) (by assumption) ?_
  try change wpAnyH _ _ _ _ _ _ _ (Act.put _ (some 72) _) _
  try simp only [act_all]
  refine wpAnyH_take (i := 6) (oi := _) (v := ?_) rfl (by kernel_rfl) (by kernel_rfl) (by kernel_rfl) (fun _ _ _ h => h) (Or.inl ⟨by rfl, ?_⟩) (by assumption) ?_
  rotate_left
  · intro w _; go_simp; (try with_reducible rfl)
  try change wpAnyH _ _ _ _ _ _ _ (Act.put _ (some 73) _) _
  try simp only [act_all]
  refine wpAnyH_take (i := 7) (oi := _) (v := ?_) rfl (by kernel_rfl) (by kernel_rfl) (by kernel_rfl) (fun _ _ _ h => h) (Or.inl ⟨by rfl, ?_⟩) (by assumption) ?_
  rotate_left
  · intro w _; go_simp; (try with_reducible rfl)
  try change wpAnyH _ _ _ _ _ _ _ (Act.put _ (some 74) _) _
  try simp only [act_all]
  refine wpAnyH_take (i := 8) (oi := _) (v := ?_) rfl (by kernel_rfl) (by kernel_rfl) (by kernel_rfl) (fun _ _ _ h => h) (Or.inl ⟨by rfl, ?_⟩) (by assumption) ?_
  rotate_left
  · intro w _; go_simp; (try with_reducible rfl)
  try change wpAnyH _ _ _ _ _ _ _ (Act.put _ (some 75) _) _
  try simp only [act_all]
  refine wpAnyH_take (i := 9) (oi := _) (v := ?_) rfl (by kernel_rfl) (by kernel_rfl) (by kernel_rfl) (fun _ _ _ h => h) (Or.inl ⟨by rfl, ?_⟩) (by assumption) ?_
  rotate_left
  · intro w _; go_simp; (try with_reducible rfl)
  try change wpAnyH _ _ _ _ _ _ _ (Act.put _ (some 76) _) _
  try simp only [act_all]
  refine wpAnyH_take (i := 10) (oi := _) (v := ?_) rfl (by kernel_rfl) (by kernel_rfl) (by kernel_rfl) (fun _ _ _ h => h) (Or.inl ⟨by rfl, ?_⟩) (by assumption) ?_
  rotate_left
  · intro w _; go_simp; (try with_reducible rfl)
  try change wpAnyH _ _ _ _ _ _ _ (Act.put _ (some 77) _) _
  try simp only [act_all]
  refine wpAnyH_take (i := 11) (oi := _) (v := _) rfl (by kernel_rfl) (by kernel_rfl) (by kernel_rfl) (fun _ _ _ h => h) (yieldsIf_load_mid (by rfl) 25 _ rfl (BB7) 12 rfl [.int .i64 a3, .int .i64 b3, .int .i64 c3, .int .i64 d3] _ (fun w' h => range_row h.2 12 [.int .i64 a3, .int .i64 b3, .int .i64 c3, .int .i64 d3] (fun j hj => by rcases four_at (by simpa using hj) with rfl | rfl | rfl | rfl <;> rfl)) Try.underlying25 rfl (by kernel_rfl)) (by assumption) ?_
  try change wpAnyH _ _ _ _ _ _ _ (Act.put _ (some 78) _) _
  try simp only [act_all]
  refine wpAnyH_ready (rs := [12]) (by kernel_rfl) (by simp) ?_
  refine AllReadyH.cons (o := _) rfl (fun K hK => ?_) AllReadyH.nil
  go_simp
  refine (inL_any a3 b3 c3 d3 a3 b3 c3 d3 _).mono ?_
  rw [HI3.out]
  rintro e v3 ⟨rfl, hb⟩
  have hb : Below v2.heap.size v2 v3 := (Below.refl _ _).drew.trans hb
  clear hHeld
  have HD11 := Lib.hid (HD10.out.trans (hb.mono lw10))
  have lw11 : w.heap.size ≤ v3.heap.size := Nat.le_trans lw10 hb.size
  have Hb2_11 := Lib.hid ((hb.block _ lb2_10).trans Hb2_10.out)
  have lb2_11 : w.heap.size < v3.heap.size := Nat.lt_of_lt_of_le lb2_10 hb.size
  have Hb3_11 := Lib.hid ((hb.block _ lb3_10).trans Hb3_10.out)
  have lb3_11 : w.heap.size + 1 < v3.heap.size := Nat.lt_of_lt_of_le lb3_10 hb.size
  have Hb5_11 := Lib.hid ((hb.block _ lb5_10).trans Hb5_10.out)
  have lb5_11 : BB2 < v3.heap.size := Nat.lt_of_lt_of_le lb5_10 hb.size
  have Hb7_11 := Lib.hid ((hb.block _ lb7_10).trans Hb7_10.out)
  have lb7_11 : BB4 < v3.heap.size := Nat.lt_of_lt_of_le lb7_10 hb.size
  have Hb9_11 := Lib.hid ((hb.block _ lb9_10).trans Hb9_10.out)
  have lb9_11 : BB5 < v3.heap.size := Nat.lt_of_lt_of_le lb9_10 hb.size
  have Hb10_11 := Lib.hid ((hb.block _ lb10_10).trans Hb10_10.out)
  have lb10_11 : BB7 < v3.heap.size := Nat.lt_of_lt_of_le lb10_10 hb.size
  clear hb HD10 lw10 Hb2_10 lb2_10 Hb3_10 lb3_10 Hb5_10 lb5_10 Hb7_10 lb7_10 Hb9_10 lb9_10 Hb10_10 lb10_10
  refine hK.out _ _ ⟨Hb2_11.out, Hb10_11.out⟩ (fun hHeld => ?_)
  clear hK K
  try simp only [act_all]
  refine wpAnyH_take (i := 13) (oi := _) (v := ?_) rfl (by kernel_rfl) (by kernel_rfl) (by kernel_rfl) (fun _ _ _ h => h) (Or.inl ⟨by rfl, ?_⟩) (by assumption) ?_
  rotate_left
  · intro w _; go_simp; (try with_reducible rfl)
  try change wpAnyH _ _ _ _ _ _ _ (Act.put _ (some 80) _) _
  try simp only [act_all]
  refine wpAnyH_done (by kernel_rfl) ?_ _
  clear hHeld
  go_wp2_with fail
  rw [rounds_succ]
  go_wp2_with fail
  rw [rounds_succ]
  go_upto_region 20 with fail
  refine wp_region_lit ?_
  refine wpList_load_mid rfl 49 (.tmp 3) rfl (w.heap.size + 1) 0 rfl [.int .i64 e0, .int .i64 f0, .int .i64 g0, .int .i64 h0, .int .i64 e1, .int .i64 f1, .int .i64 g1, .int .i64 h1, .int .i64 e2, .int .i64 f2, .int .i64 g2, .int .i64 h2, .int .i64 e3, .int .i64 f3, .int .i64 g3, .int .i64 h3] _ (range_row Hb3_11.out 0 [.int .i64 e0, .int .i64 f0, .int .i64 g0, .int .i64 h0, .int .i64 e1, .int .i64 f1, .int .i64 g1, .int .i64 h1, .int .i64 e2, .int .i64 f2, .int .i64 g2, .int .i64 h2, .int .i64 e3, .int .i64 f3, .int .i64 g3, .int .i64 h3] (fun j hj => by simp only [Nat.zero_add, List.getElem?_toArray])) Try.underlying49 rfl (by kernel_rfl) ?_
  refine wpList_step (fun K hK => ?_)
  go_simp
  refine (eMirror_any e0 f0 g0 h0 e1 f1 g1 h1 e2 f2 g2 h2 e3 f3 g3 h3 _).mono ?_
  rw [HBE.out]
  rintro e u12_ ⟨rfl, hb⟩
  have HD12 := Lib.hid (HD11.out.trans (hb.mono lw11))
  have lw12 : w.heap.size ≤ u12_.heap.size := Nat.le_trans lw11 hb.size
  have Hb2_12 := Lib.hid ((hb.block _ lb2_11).trans Hb2_11.out)
  have lb2_12 : w.heap.size < u12_.heap.size := Nat.lt_of_lt_of_le lb2_11 hb.size
  have Hb3_12 := Lib.hid ((hb.block _ lb3_11).trans Hb3_11.out)
  have lb3_12 : w.heap.size + 1 < u12_.heap.size := Nat.lt_of_lt_of_le lb3_11 hb.size
  have Hb5_12 := Lib.hid ((hb.block _ lb5_11).trans Hb5_11.out)
  have lb5_12 : BB2 < u12_.heap.size := Nat.lt_of_lt_of_le lb5_11 hb.size
  have Hb7_12 := Lib.hid ((hb.block _ lb7_11).trans Hb7_11.out)
  have lb7_12 : BB4 < u12_.heap.size := Nat.lt_of_lt_of_le lb7_11 hb.size
  have Hb9_12 := Lib.hid ((hb.block _ lb9_11).trans Hb9_11.out)
  have lb9_12 : BB5 < u12_.heap.size := Nat.lt_of_lt_of_le lb9_11 hb.size
  have Hb10_12 := Lib.hid ((hb.block _ lb10_11).trans Hb10_11.out)
  have lb10_12 : BB7 < u12_.heap.size := Nat.lt_of_lt_of_le lb10_11 hb.size
  clear hb HD11 lw11 Hb2_11 lb2_11 Hb3_11 lb3_11 Hb5_11 lb5_11 Hb7_11 lb7_11 Hb9_11 lb9_11 Hb10_11 lb10_11
  refine hK _ _ ?_
  clear hK K
  refine wpList_step (fun K hK => ?_); go_simp; refine hK _ _ ?_; clear hK K
  refine wpList_step (fun K hK => ?_); go_simp; refine hK _ _ ?_; clear hK K
  refine wpList_step (fun K hK => ?_); go_simp; refine hK _ _ ?_; clear hK K
  refine wpList_step (fun K hK => ?_); go_simp; refine hK _ _ ?_; clear hK K
  have HTH := Lib.hid (there_mid (heap_alloc_new u12_ (.cells #[.int .i64 0, .int .i64 0, .int .i64 0, .int .i64 0, .int .i64 0, .int .i64 0, .int .i64 0, .int .i64 0, .int .i64 0, .int .i64 0, .int .i64 0, .int .i64 0, .int .i64 0, .int .i64 0, .int .i64 0, .int .i64 0] 49)) 0 16 (show 0 + 16 ≤ 16 by decide))
  refine wpList_store_mid rfl 49 (.tmp 13) (.tmp 86) rfl u12_.heap.size 0 #[.int .i64 m0, .int .i64 m1, .int .i64 m2, .int .i64 m3, .int .i64 m4, .int .i64 m5, .int .i64 m6, .int .i64 m7, .int .i64 m8, .int .i64 m9, .int .i64 m10, .int .i64 m11, .int .i64 m12, .int .i64 m13, .int .i64 m14, .int .i64 m15] rfl rfl HTH.out (by kernel_rfl) (by simp [Value.oneCell']) ?_
  (try rw [show (#[.int .i64 m0, .int .i64 m1, .int .i64 m2, .int .i64 m3, .int .i64 m4, .int .i64 m5, .int .i64 m6, .int .i64 m7, .int .i64 m8, .int .i64 m9, .int .i64 m10, .int .i64 m11, .int .i64 m12, .int .i64 m13, .int .i64 m14, .int .i64 m15] : Array Value).toList = [.int .i64 m0, .int .i64 m1, .int .i64 m2, .int .i64 m3, .int .i64 m4, .int .i64 m5, .int .i64 m6, .int .i64 m7, .int .i64 m8, .int .i64 m9, .int .i64 m10, .int .i64 m11, .int .i64 m12, .int .i64 m13, .int .i64 m14, .int .i64 m15] from rfl])
  have hba : Below u12_.heap.size u12_ (u12_.alloc (.cells #[.int .i64 0, .int .i64 0, .int .i64 0, .int .i64 0, .int .i64 0, .int .i64 0, .int .i64 0, .int .i64 0, .int .i64 0, .int .i64 0, .int .i64 0, .int .i64 0, .int .i64 0, .int .i64 0, .int .i64 0, .int .i64 0] 49)) := bal (Below.refl _ _) _
  have hb : Below u12_.heap.size u12_ ((u12_.alloc (.cells #[.int .i64 0, .int .i64 0, .int .i64 0, .int .i64 0, .int .i64 0, .int .i64 0, .int .i64 0, .int .i64 0, .int .i64 0, .int .i64 0, .int .i64 0, .int .i64 0, .int .i64 0, .int .i64 0, .int .i64 0, .int .i64 0] 49)).setCells u12_.heap.size 0 [.int .i64 m0, .int .i64 m1, .int .i64 m2, .int .i64 m3, .int .i64 m4, .int .i64 m5, .int .i64 m6, .int .i64 m7, .int .i64 m8, .int .i64 m9, .int .i64 m10, .int .i64 m11, .int .i64 m12, .int .i64 m13, .int .i64 m14, .int .i64 m15]) := below_mids (Nat.le_refl _) _ _ hba
  have hnb : ((u12_.alloc (.cells #[.int .i64 0, .int .i64 0, .int .i64 0, .int .i64 0, .int .i64 0, .int .i64 0, .int .i64 0, .int .i64 0, .int .i64 0, .int .i64 0, .int .i64 0, .int .i64 0, .int .i64 0, .int .i64 0, .int .i64 0, .int .i64 0] 49)).setCells u12_.heap.size 0 [.int .i64 m0, .int .i64 m1, .int .i64 m2, .int .i64 m3, .int .i64 m4, .int .i64 m5, .int .i64 m6, .int .i64 m7, .int .i64 m8, .int .i64 m9, .int .i64 m10, .int .i64 m11, .int .i64 m12, .int .i64 m13, .int .i64 m14, .int .i64 m15]).heap[u12_.heap.size]? = some (.cells #[.int .i64 m0, .int .i64 m1, .int .i64 m2, .int .i64 m3, .int .i64 m4, .int .i64 m5, .int .i64 m6, .int .i64 m7, .int .i64 m8, .int .i64 m9, .int .i64 m10, .int .i64 m11, .int .i64 m12, .int .i64 m13, .int .i64 m14, .int .i64 m15] 49 (0, 0)) := block_whole [.int .i64 m0, .int .i64 m1, .int .i64 m2, .int .i64 m3, .int .i64 m4, .int .i64 m5, .int .i64 m6, .int .i64 m7, .int .i64 m8, .int .i64 m9, .int .i64 m10, .int .i64 m11, .int .i64 m12, .int .i64 m13, .int .i64 m14, .int .i64 m15] (heap_alloc_new u12_ (.cells #[.int .i64 0, .int .i64 0, .int .i64 0, .int .i64 0, .int .i64 0, .int .i64 0, .int .i64 0, .int .i64 0, .int .i64 0, .int .i64 0, .int .i64 0, .int .i64 0, .int .i64 0, .int .i64 0, .int .i64 0, .int .i64 0] 49)) rfl
  have hlb : u12_.heap.size < ((u12_.alloc (.cells #[.int .i64 0, .int .i64 0, .int .i64 0, .int .i64 0, .int .i64 0, .int .i64 0, .int .i64 0, .int .i64 0, .int .i64 0, .int .i64 0, .int .i64 0, .int .i64 0, .int .i64 0, .int .i64 0, .int .i64 0, .int .i64 0] 49)).setCells u12_.heap.size 0 [.int .i64 m0, .int .i64 m1, .int .i64 m2, .int .i64 m3, .int .i64 m4, .int .i64 m5, .int .i64 m6, .int .i64 m7, .int .i64 m8, .int .i64 m9, .int .i64 m10, .int .i64 m11, .int .i64 m12, .int .i64 m13, .int .i64 m14, .int .i64 m15]).heap.size := (Array.getElem?_eq_some_iff.1 hnb).1
  have HD13 := Lib.hid (HD12.out.trans (hb.mono lw12))
  have lw13 : w.heap.size ≤ ((u12_.alloc (.cells #[.int .i64 0, .int .i64 0, .int .i64 0, .int .i64 0, .int .i64 0, .int .i64 0, .int .i64 0, .int .i64 0, .int .i64 0, .int .i64 0, .int .i64 0, .int .i64 0, .int .i64 0, .int .i64 0, .int .i64 0, .int .i64 0] 49)).setCells u12_.heap.size 0 [.int .i64 m0, .int .i64 m1, .int .i64 m2, .int .i64 m3, .int .i64 m4, .int .i64 m5, .int .i64 m6, .int .i64 m7, .int .i64 m8, .int .i64 m9, .int .i64 m10, .int .i64 m11, .int .i64 m12, .int .i64 m13, .int .i64 m14, .int .i64 m15]).heap.size := Nat.le_trans lw12 hb.size
  have Hb2_13 := Lib.hid ((hb.block _ lb2_12).trans Hb2_12.out)
  have lb2_13 : w.heap.size < ((u12_.alloc (.cells #[.int .i64 0, .int .i64 0, .int .i64 0, .int .i64 0, .int .i64 0, .int .i64 0, .int .i64 0, .int .i64 0, .int .i64 0, .int .i64 0, .int .i64 0, .int .i64 0, .int .i64 0, .int .i64 0, .int .i64 0, .int .i64 0] 49)).setCells u12_.heap.size 0 [.int .i64 m0, .int .i64 m1, .int .i64 m2, .int .i64 m3, .int .i64 m4, .int .i64 m5, .int .i64 m6, .int .i64 m7, .int .i64 m8, .int .i64 m9, .int .i64 m10, .int .i64 m11, .int .i64 m12, .int .i64 m13, .int .i64 m14, .int .i64 m15]).heap.size := Nat.lt_of_lt_of_le lb2_12 hb.size
  have Hb3_13 := Lib.hid ((hb.block _ lb3_12).trans Hb3_12.out)
  have lb3_13 : w.heap.size + 1 < ((u12_.alloc (.cells #[.int .i64 0, .int .i64 0, .int .i64 0, .int .i64 0, .int .i64 0, .int .i64 0, .int .i64 0, .int .i64 0, .int .i64 0, .int .i64 0, .int .i64 0, .int .i64 0, .int .i64 0, .int .i64 0, .int .i64 0, .int .i64 0] 49)).setCells u12_.heap.size 0 [.int .i64 m0, .int .i64 m1, .int .i64 m2, .int .i64 m3, .int .i64 m4, .int .i64 m5, .int .i64 m6, .int .i64 m7, .int .i64 m8, .int .i64 m9, .int .i64 m10, .int .i64 m11, .int .i64 m12, .int .i64 m13, .int .i64 m14, .int .i64 m15]).heap.size := Nat.lt_of_lt_of_le lb3_12 hb.size
  have Hb5_13 := Lib.hid ((hb.block _ lb5_12).trans Hb5_12.out)
  have lb5_13 : BB2 < ((u12_.alloc (.cells #[.int .i64 0, .int .i64 0, .int .i64 0, .int .i64 0, .int .i64 0, .int .i64 0, .int .i64 0, .int .i64 0, .int .i64 0, .int .i64 0, .int .i64 0, .int .i64 0, .int .i64 0, .int .i64 0, .int .i64 0, .int .i64 0] 49)).setCells u12_.heap.size 0 [.int .i64 m0, .int .i64 m1, .int .i64 m2, .int .i64 m3, .int .i64 m4, .int .i64 m5, .int .i64 m6, .int .i64 m7, .int .i64 m8, .int .i64 m9, .int .i64 m10, .int .i64 m11, .int .i64 m12, .int .i64 m13, .int .i64 m14, .int .i64 m15]).heap.size := Nat.lt_of_lt_of_le lb5_12 hb.size
  have Hb7_13 := Lib.hid ((hb.block _ lb7_12).trans Hb7_12.out)
  have lb7_13 : BB4 < ((u12_.alloc (.cells #[.int .i64 0, .int .i64 0, .int .i64 0, .int .i64 0, .int .i64 0, .int .i64 0, .int .i64 0, .int .i64 0, .int .i64 0, .int .i64 0, .int .i64 0, .int .i64 0, .int .i64 0, .int .i64 0, .int .i64 0, .int .i64 0] 49)).setCells u12_.heap.size 0 [.int .i64 m0, .int .i64 m1, .int .i64 m2, .int .i64 m3, .int .i64 m4, .int .i64 m5, .int .i64 m6, .int .i64 m7, .int .i64 m8, .int .i64 m9, .int .i64 m10, .int .i64 m11, .int .i64 m12, .int .i64 m13, .int .i64 m14, .int .i64 m15]).heap.size := Nat.lt_of_lt_of_le lb7_12 hb.size
  have Hb9_13 := Lib.hid ((hb.block _ lb9_12).trans Hb9_12.out)
  have lb9_13 : BB5 < ((u12_.alloc (.cells #[.int .i64 0, .int .i64 0, .int .i64 0, .int .i64 0, .int .i64 0, .int .i64 0, .int .i64 0, .int .i64 0, .int .i64 0, .int .i64 0, .int .i64 0, .int .i64 0, .int .i64 0, .int .i64 0, .int .i64 0, .int .i64 0] 49)).setCells u12_.heap.size 0 [.int .i64 m0, .int .i64 m1, .int .i64 m2, .int .i64 m3, .int .i64 m4, .int .i64 m5, .int .i64 m6, .int .i64 m7, .int .i64 m8, .int .i64 m9, .int .i64 m10, .int .i64 m11, .int .i64 m12, .int .i64 m13, .int .i64 m14, .int .i64 m15]).heap.size := Nat.lt_of_lt_of_le lb9_12 hb.size
  have Hb10_13 := Lib.hid ((hb.block _ lb10_12).trans Hb10_12.out)
  have lb10_13 : BB7 < ((u12_.alloc (.cells #[.int .i64 0, .int .i64 0, .int .i64 0, .int .i64 0, .int .i64 0, .int .i64 0, .int .i64 0, .int .i64 0, .int .i64 0, .int .i64 0, .int .i64 0, .int .i64 0, .int .i64 0, .int .i64 0, .int .i64 0, .int .i64 0] 49)).setCells u12_.heap.size 0 [.int .i64 m0, .int .i64 m1, .int .i64 m2, .int .i64 m3, .int .i64 m4, .int .i64 m5, .int .i64 m6, .int .i64 m7, .int .i64 m8, .int .i64 m9, .int .i64 m10, .int .i64 m11, .int .i64 m12, .int .i64 m13, .int .i64 m14, .int .i64 m15]).heap.size := Nat.lt_of_lt_of_le lb10_12 hb.size
  have Hb13_13 := Lib.hid hnb
  have lb13_13 := hlb
  clear hb hba hnb hlb HTH HD12 lw12 Hb2_12 lb2_12 Hb3_12 lb3_12 Hb5_12 lb5_12 Hb7_12 lb7_12 Hb9_12 lb9_12 Hb10_12 lb10_12
  generalize ((u12_.alloc (.cells #[.int .i64 0, .int .i64 0, .int .i64 0, .int .i64 0, .int .i64 0, .int .i64 0, .int .i64 0, .int .i64 0, .int .i64 0, .int .i64 0, .int .i64 0, .int .i64 0, .int .i64 0, .int .i64 0, .int .i64 0, .int .i64 0] 49)).setCells u12_.heap.size 0 [.int .i64 m0, .int .i64 m1, .int .i64 m2, .int .i64 m3, .int .i64 m4, .int .i64 m5, .int .i64 m6, .int .i64 m7, .int .i64 m8, .int .i64 m9, .int .i64 m10, .int .i64 m11, .int .i64 m12, .int .i64 m13, .int .i64 m14, .int .i64 m15]) = U13 at *
  generalize u12_.heap.size = BB13 at *
  refine wpList_step (fun K hK => ?_); go_simp; refine hK _ _ ?_; clear hK K
  refine wpList_nil ?_
  go_upto_region 21 with fail
  refine wp_region_lit ?_
  refine wpList_load_mid rfl 49 (.tmp 2) rfl (w.heap.size) 0 rfl [.int .i64 a0, .int .i64 b0, .int .i64 c0, .int .i64 d0, .int .i64 a1, .int .i64 b1, .int .i64 c1, .int .i64 d1, .int .i64 a2, .int .i64 b2, .int .i64 c2, .int .i64 d2, .int .i64 a3, .int .i64 b3, .int .i64 c3, .int .i64 d3] _ (range_row Hb2_13.out 0 [.int .i64 a0, .int .i64 b0, .int .i64 c0, .int .i64 d0, .int .i64 a1, .int .i64 b1, .int .i64 c1, .int .i64 d1, .int .i64 a2, .int .i64 b2, .int .i64 c2, .int .i64 d2, .int .i64 a3, .int .i64 b3, .int .i64 c3, .int .i64 d3] (fun j hj => by simp only [Nat.zero_add, List.getElem?_toArray])) Try.underlying49 rfl (by kernel_rfl) ?_
  refine wpList_load_mid rfl 49 (.tmp 3) rfl (w.heap.size + 1) 0 rfl [.int .i64 e0, .int .i64 f0, .int .i64 g0, .int .i64 h0, .int .i64 e1, .int .i64 f1, .int .i64 g1, .int .i64 h1, .int .i64 e2, .int .i64 f2, .int .i64 g2, .int .i64 h2, .int .i64 e3, .int .i64 f3, .int .i64 g3, .int .i64 h3] _ (range_row Hb3_13.out 0 [.int .i64 e0, .int .i64 f0, .int .i64 g0, .int .i64 h0, .int .i64 e1, .int .i64 f1, .int .i64 g1, .int .i64 h1, .int .i64 e2, .int .i64 f2, .int .i64 g2, .int .i64 h2, .int .i64 e3, .int .i64 f3, .int .i64 g3, .int .i64 h3] (fun j hj => by simp only [Nat.zero_add, List.getElem?_toArray])) Try.underlying49 rfl (by kernel_rfl) ?_
  refine wpList_step (fun K hK => ?_)
  go_simp
  refine (eStar_any a0 b0 c0 d0 a1 b1 c1 d1 a2 b2 c2 d2 a3 b3 c3 d3 e0 f0 g0 h0 e1 f1 g1 h1 e2 f2 g2 h2 e3 f3 g3 h3 _).mono ?_
  rw [HJE.out]
  rintro e u14_ ⟨rfl, hb⟩
  have HD14 := Lib.hid (HD13.out.trans (hb.mono lw13))
  have lw14 : w.heap.size ≤ u14_.heap.size := Nat.le_trans lw13 hb.size
  have Hb2_14 := Lib.hid ((hb.block _ lb2_13).trans Hb2_13.out)
  have lb2_14 : w.heap.size < u14_.heap.size := Nat.lt_of_lt_of_le lb2_13 hb.size
  have Hb3_14 := Lib.hid ((hb.block _ lb3_13).trans Hb3_13.out)
  have lb3_14 : w.heap.size + 1 < u14_.heap.size := Nat.lt_of_lt_of_le lb3_13 hb.size
  have Hb5_14 := Lib.hid ((hb.block _ lb5_13).trans Hb5_13.out)
  have lb5_14 : BB2 < u14_.heap.size := Nat.lt_of_lt_of_le lb5_13 hb.size
  have Hb7_14 := Lib.hid ((hb.block _ lb7_13).trans Hb7_13.out)
  have lb7_14 : BB4 < u14_.heap.size := Nat.lt_of_lt_of_le lb7_13 hb.size
  have Hb9_14 := Lib.hid ((hb.block _ lb9_13).trans Hb9_13.out)
  have lb9_14 : BB5 < u14_.heap.size := Nat.lt_of_lt_of_le lb9_13 hb.size
  have Hb10_14 := Lib.hid ((hb.block _ lb10_13).trans Hb10_13.out)
  have lb10_14 : BB7 < u14_.heap.size := Nat.lt_of_lt_of_le lb10_13 hb.size
  have Hb13_14 := Lib.hid ((hb.block _ lb13_13).trans Hb13_13.out)
  have lb13_14 : BB13 < u14_.heap.size := Nat.lt_of_lt_of_le lb13_13 hb.size
  clear hb HD13 lw13 Hb2_13 lb2_13 Hb3_13 lb3_13 Hb5_13 lb5_13 Hb7_13 lb7_13 Hb9_13 lb9_13 Hb10_13 lb10_13 Hb13_13 lb13_13
  refine hK _ _ ?_
  clear hK K
  refine wpList_step (fun K hK => ?_); go_simp; refine hK _ _ ?_; clear hK K
  refine wpList_step (fun K hK => ?_); go_simp; refine hK _ _ ?_; clear hK K
  refine wpList_step (fun K hK => ?_); go_simp; refine hK _ _ ?_; clear hK K
  refine wpList_step (fun K hK => ?_); go_simp; refine hK _ _ ?_; clear hK K
  have HTH := Lib.hid (there_mid (heap_alloc_new u14_ (.cells #[.int .i64 0, .int .i64 0, .int .i64 0, .int .i64 0, .int .i64 0, .int .i64 0, .int .i64 0, .int .i64 0, .int .i64 0, .int .i64 0, .int .i64 0, .int .i64 0, .int .i64 0, .int .i64 0, .int .i64 0, .int .i64 0] 49)) 0 16 (show 0 + 16 ≤ 16 by decide))
  refine wpList_store_mid rfl 49 (.tmp 14) (.tmp 92) rfl u14_.heap.size 0 #[.int .i64 j0, .int .i64 j1, .int .i64 j2, .int .i64 j3, .int .i64 j4, .int .i64 j5, .int .i64 j6, .int .i64 j7, .int .i64 j8, .int .i64 j9, .int .i64 j10, .int .i64 j11, .int .i64 j12, .int .i64 j13, .int .i64 j14, .int .i64 j15] rfl rfl HTH.out (by kernel_rfl) (by simp [Value.oneCell']) ?_
  (try rw [show (#[.int .i64 j0, .int .i64 j1, .int .i64 j2, .int .i64 j3, .int .i64 j4, .int .i64 j5, .int .i64 j6, .int .i64 j7, .int .i64 j8, .int .i64 j9, .int .i64 j10, .int .i64 j11, .int .i64 j12, .int .i64 j13, .int .i64 j14, .int .i64 j15] : Array Value).toList = [.int .i64 j0, .int .i64 j1, .int .i64 j2, .int .i64 j3, .int .i64 j4, .int .i64 j5, .int .i64 j6, .int .i64 j7, .int .i64 j8, .int .i64 j9, .int .i64 j10, .int .i64 j11, .int .i64 j12, .int .i64 j13, .int .i64 j14, .int .i64 j15] from rfl])
  have hba : Below u14_.heap.size u14_ (u14_.alloc (.cells #[.int .i64 0, .int .i64 0, .int .i64 0, .int .i64 0, .int .i64 0, .int .i64 0, .int .i64 0, .int .i64 0, .int .i64 0, .int .i64 0, .int .i64 0, .int .i64 0, .int .i64 0, .int .i64 0, .int .i64 0, .int .i64 0] 49)) := bal (Below.refl _ _) _
  have hb : Below u14_.heap.size u14_ ((u14_.alloc (.cells #[.int .i64 0, .int .i64 0, .int .i64 0, .int .i64 0, .int .i64 0, .int .i64 0, .int .i64 0, .int .i64 0, .int .i64 0, .int .i64 0, .int .i64 0, .int .i64 0, .int .i64 0, .int .i64 0, .int .i64 0, .int .i64 0] 49)).setCells u14_.heap.size 0 [.int .i64 j0, .int .i64 j1, .int .i64 j2, .int .i64 j3, .int .i64 j4, .int .i64 j5, .int .i64 j6, .int .i64 j7, .int .i64 j8, .int .i64 j9, .int .i64 j10, .int .i64 j11, .int .i64 j12, .int .i64 j13, .int .i64 j14, .int .i64 j15]) := below_mids (Nat.le_refl _) _ _ hba
  have hnb : ((u14_.alloc (.cells #[.int .i64 0, .int .i64 0, .int .i64 0, .int .i64 0, .int .i64 0, .int .i64 0, .int .i64 0, .int .i64 0, .int .i64 0, .int .i64 0, .int .i64 0, .int .i64 0, .int .i64 0, .int .i64 0, .int .i64 0, .int .i64 0] 49)).setCells u14_.heap.size 0 [.int .i64 j0, .int .i64 j1, .int .i64 j2, .int .i64 j3, .int .i64 j4, .int .i64 j5, .int .i64 j6, .int .i64 j7, .int .i64 j8, .int .i64 j9, .int .i64 j10, .int .i64 j11, .int .i64 j12, .int .i64 j13, .int .i64 j14, .int .i64 j15]).heap[u14_.heap.size]? = some (.cells #[.int .i64 j0, .int .i64 j1, .int .i64 j2, .int .i64 j3, .int .i64 j4, .int .i64 j5, .int .i64 j6, .int .i64 j7, .int .i64 j8, .int .i64 j9, .int .i64 j10, .int .i64 j11, .int .i64 j12, .int .i64 j13, .int .i64 j14, .int .i64 j15] 49 (0, 0)) := block_whole [.int .i64 j0, .int .i64 j1, .int .i64 j2, .int .i64 j3, .int .i64 j4, .int .i64 j5, .int .i64 j6, .int .i64 j7, .int .i64 j8, .int .i64 j9, .int .i64 j10, .int .i64 j11, .int .i64 j12, .int .i64 j13, .int .i64 j14, .int .i64 j15] (heap_alloc_new u14_ (.cells #[.int .i64 0, .int .i64 0, .int .i64 0, .int .i64 0, .int .i64 0, .int .i64 0, .int .i64 0, .int .i64 0, .int .i64 0, .int .i64 0, .int .i64 0, .int .i64 0, .int .i64 0, .int .i64 0, .int .i64 0, .int .i64 0] 49)) rfl
  have hlb : u14_.heap.size < ((u14_.alloc (.cells #[.int .i64 0, .int .i64 0, .int .i64 0, .int .i64 0, .int .i64 0, .int .i64 0, .int .i64 0, .int .i64 0, .int .i64 0, .int .i64 0, .int .i64 0, .int .i64 0, .int .i64 0, .int .i64 0, .int .i64 0, .int .i64 0] 49)).setCells u14_.heap.size 0 [.int .i64 j0, .int .i64 j1, .int .i64 j2, .int .i64 j3, .int .i64 j4, .int .i64 j5, .int .i64 j6, .int .i64 j7, .int .i64 j8, .int .i64 j9, .int .i64 j10, .int .i64 j11, .int .i64 j12, .int .i64 j13, .int .i64 j14, .int .i64 j15]).heap.size := (Array.getElem?_eq_some_iff.1 hnb).1
  have HD15 := Lib.hid (HD14.out.trans (hb.mono lw14))
  have lw15 : w.heap.size ≤ ((u14_.alloc (.cells #[.int .i64 0, .int .i64 0, .int .i64 0, .int .i64 0, .int .i64 0, .int .i64 0, .int .i64 0, .int .i64 0, .int .i64 0, .int .i64 0, .int .i64 0, .int .i64 0, .int .i64 0, .int .i64 0, .int .i64 0, .int .i64 0] 49)).setCells u14_.heap.size 0 [.int .i64 j0, .int .i64 j1, .int .i64 j2, .int .i64 j3, .int .i64 j4, .int .i64 j5, .int .i64 j6, .int .i64 j7, .int .i64 j8, .int .i64 j9, .int .i64 j10, .int .i64 j11, .int .i64 j12, .int .i64 j13, .int .i64 j14, .int .i64 j15]).heap.size := Nat.le_trans lw14 hb.size
  have Hb2_15 := Lib.hid ((hb.block _ lb2_14).trans Hb2_14.out)
  have lb2_15 : w.heap.size < ((u14_.alloc (.cells #[.int .i64 0, .int .i64 0, .int .i64 0, .int .i64 0, .int .i64 0, .int .i64 0, .int .i64 0, .int .i64 0, .int .i64 0, .int .i64 0, .int .i64 0, .int .i64 0, .int .i64 0, .int .i64 0, .int .i64 0, .int .i64 0] 49)).setCells u14_.heap.size 0 [.int .i64 j0, .int .i64 j1, .int .i64 j2, .int .i64 j3, .int .i64 j4, .int .i64 j5, .int .i64 j6, .int .i64 j7, .int .i64 j8, .int .i64 j9, .int .i64 j10, .int .i64 j11, .int .i64 j12, .int .i64 j13, .int .i64 j14, .int .i64 j15]).heap.size := Nat.lt_of_lt_of_le lb2_14 hb.size
  have Hb3_15 := Lib.hid ((hb.block _ lb3_14).trans Hb3_14.out)
  have lb3_15 : w.heap.size + 1 < ((u14_.alloc (.cells #[.int .i64 0, .int .i64 0, .int .i64 0, .int .i64 0, .int .i64 0, .int .i64 0, .int .i64 0, .int .i64 0, .int .i64 0, .int .i64 0, .int .i64 0, .int .i64 0, .int .i64 0, .int .i64 0, .int .i64 0, .int .i64 0] 49)).setCells u14_.heap.size 0 [.int .i64 j0, .int .i64 j1, .int .i64 j2, .int .i64 j3, .int .i64 j4, .int .i64 j5, .int .i64 j6, .int .i64 j7, .int .i64 j8, .int .i64 j9, .int .i64 j10, .int .i64 j11, .int .i64 j12, .int .i64 j13, .int .i64 j14, .int .i64 j15]).heap.size := Nat.lt_of_lt_of_le lb3_14 hb.size
  have Hb5_15 := Lib.hid ((hb.block _ lb5_14).trans Hb5_14.out)
  have lb5_15 : BB2 < ((u14_.alloc (.cells #[.int .i64 0, .int .i64 0, .int .i64 0, .int .i64 0, .int .i64 0, .int .i64 0, .int .i64 0, .int .i64 0, .int .i64 0, .int .i64 0, .int .i64 0, .int .i64 0, .int .i64 0, .int .i64 0, .int .i64 0, .int .i64 0] 49)).setCells u14_.heap.size 0 [.int .i64 j0, .int .i64 j1, .int .i64 j2, .int .i64 j3, .int .i64 j4, .int .i64 j5, .int .i64 j6, .int .i64 j7, .int .i64 j8, .int .i64 j9, .int .i64 j10, .int .i64 j11, .int .i64 j12, .int .i64 j13, .int .i64 j14, .int .i64 j15]).heap.size := Nat.lt_of_lt_of_le lb5_14 hb.size
  have Hb7_15 := Lib.hid ((hb.block _ lb7_14).trans Hb7_14.out)
  have lb7_15 : BB4 < ((u14_.alloc (.cells #[.int .i64 0, .int .i64 0, .int .i64 0, .int .i64 0, .int .i64 0, .int .i64 0, .int .i64 0, .int .i64 0, .int .i64 0, .int .i64 0, .int .i64 0, .int .i64 0, .int .i64 0, .int .i64 0, .int .i64 0, .int .i64 0] 49)).setCells u14_.heap.size 0 [.int .i64 j0, .int .i64 j1, .int .i64 j2, .int .i64 j3, .int .i64 j4, .int .i64 j5, .int .i64 j6, .int .i64 j7, .int .i64 j8, .int .i64 j9, .int .i64 j10, .int .i64 j11, .int .i64 j12, .int .i64 j13, .int .i64 j14, .int .i64 j15]).heap.size := Nat.lt_of_lt_of_le lb7_14 hb.size
  have Hb9_15 := Lib.hid ((hb.block _ lb9_14).trans Hb9_14.out)
  have lb9_15 : BB5 < ((u14_.alloc (.cells #[.int .i64 0, .int .i64 0, .int .i64 0, .int .i64 0, .int .i64 0, .int .i64 0, .int .i64 0, .int .i64 0, .int .i64 0, .int .i64 0, .int .i64 0, .int .i64 0, .int .i64 0, .int .i64 0, .int .i64 0, .int .i64 0] 49)).setCells u14_.heap.size 0 [.int .i64 j0, .int .i64 j1, .int .i64 j2, .int .i64 j3, .int .i64 j4, .int .i64 j5, .int .i64 j6, .int .i64 j7, .int .i64 j8, .int .i64 j9, .int .i64 j10, .int .i64 j11, .int .i64 j12, .int .i64 j13, .int .i64 j14, .int .i64 j15]).heap.size := Nat.lt_of_lt_of_le lb9_14 hb.size
  have Hb10_15 := Lib.hid ((hb.block _ lb10_14).trans Hb10_14.out)
  have lb10_15 : BB7 < ((u14_.alloc (.cells #[.int .i64 0, .int .i64 0, .int .i64 0, .int .i64 0, .int .i64 0, .int .i64 0, .int .i64 0, .int .i64 0, .int .i64 0, .int .i64 0, .int .i64 0, .int .i64 0, .int .i64 0, .int .i64 0, .int .i64 0, .int .i64 0] 49)).setCells u14_.heap.size 0 [.int .i64 j0, .int .i64 j1, .int .i64 j2, .int .i64 j3, .int .i64 j4, .int .i64 j5, .int .i64 j6, .int .i64 j7, .int .i64 j8, .int .i64 j9, .int .i64 j10, .int .i64 j11, .int .i64 j12, .int .i64 j13, .int .i64 j14, .int .i64 j15]).heap.size := Nat.lt_of_lt_of_le lb10_14 hb.size
  have Hb13_15 := Lib.hid ((hb.block _ lb13_14).trans Hb13_14.out)
  have lb13_15 : BB13 < ((u14_.alloc (.cells #[.int .i64 0, .int .i64 0, .int .i64 0, .int .i64 0, .int .i64 0, .int .i64 0, .int .i64 0, .int .i64 0, .int .i64 0, .int .i64 0, .int .i64 0, .int .i64 0, .int .i64 0, .int .i64 0, .int .i64 0, .int .i64 0] 49)).setCells u14_.heap.size 0 [.int .i64 j0, .int .i64 j1, .int .i64 j2, .int .i64 j3, .int .i64 j4, .int .i64 j5, .int .i64 j6, .int .i64 j7, .int .i64 j8, .int .i64 j9, .int .i64 j10, .int .i64 j11, .int .i64 j12, .int .i64 j13, .int .i64 j14, .int .i64 j15]).heap.size := Nat.lt_of_lt_of_le lb13_14 hb.size
  have Hb14_15 := Lib.hid hnb
  have lb14_15 := hlb
  clear hb hba hnb hlb HTH HD14 lw14 Hb2_14 lb2_14 Hb3_14 lb3_14 Hb5_14 lb5_14 Hb7_14 lb7_14 Hb9_14 lb9_14 Hb10_14 lb10_14 Hb13_14 lb13_14
  generalize ((u14_.alloc (.cells #[.int .i64 0, .int .i64 0, .int .i64 0, .int .i64 0, .int .i64 0, .int .i64 0, .int .i64 0, .int .i64 0, .int .i64 0, .int .i64 0, .int .i64 0, .int .i64 0, .int .i64 0, .int .i64 0, .int .i64 0, .int .i64 0] 49)).setCells u14_.heap.size 0 [.int .i64 j0, .int .i64 j1, .int .i64 j2, .int .i64 j3, .int .i64 j4, .int .i64 j5, .int .i64 j6, .int .i64 j7, .int .i64 j8, .int .i64 j9, .int .i64 j10, .int .i64 j11, .int .i64 j12, .int .i64 j13, .int .i64 j14, .int .i64 j15]) = U15 at *
  generalize u14_.heap.size = BB15 at *
  refine wpList_step (fun K hK => ?_); go_simp; refine hK _ _ ?_; clear hK K
  refine wpList_nil ?_
  go_upto_region 22 with fail
  refine wp_region_lit ?_
  refine wpList_load_mid rfl 49 (.tmp 13) rfl (BB13) 0 rfl [.int .i64 m0, .int .i64 m1, .int .i64 m2, .int .i64 m3, .int .i64 m4, .int .i64 m5, .int .i64 m6, .int .i64 m7, .int .i64 m8, .int .i64 m9, .int .i64 m10, .int .i64 m11, .int .i64 m12, .int .i64 m13, .int .i64 m14, .int .i64 m15] _ (range_row Hb13_15.out 0 [.int .i64 m0, .int .i64 m1, .int .i64 m2, .int .i64 m3, .int .i64 m4, .int .i64 m5, .int .i64 m6, .int .i64 m7, .int .i64 m8, .int .i64 m9, .int .i64 m10, .int .i64 m11, .int .i64 m12, .int .i64 m13, .int .i64 m14, .int .i64 m15] (fun j hj => by simp only [Nat.zero_add, List.getElem?_toArray])) Try.underlying49 rfl (by kernel_rfl) ?_
  refine wpList_load_mid rfl 49 (.tmp 5) rfl (BB2) 0 rfl [.int .i64 a3, .int .i64 b3, .int .i64 c3, .int .i64 d3, .int .i64 a2, .int .i64 b2, .int .i64 c2, .int .i64 d2, .int .i64 a1, .int .i64 b1, .int .i64 c1, .int .i64 d1, .int .i64 a0, .int .i64 b0, .int .i64 c0, .int .i64 d0] _ (range_row Hb5_15.out 0 [.int .i64 a3, .int .i64 b3, .int .i64 c3, .int .i64 d3, .int .i64 a2, .int .i64 b2, .int .i64 c2, .int .i64 d2, .int .i64 a1, .int .i64 b1, .int .i64 c1, .int .i64 d1, .int .i64 a0, .int .i64 b0, .int .i64 c0, .int .i64 d0] (fun j hj => by simp only [Nat.zero_add, List.getElem?_toArray])) Try.underlying49 rfl (by kernel_rfl) ?_
  refine wpList_step (fun K hK => ?_)
  go_simp
  refine (eStar_any m0 m1 m2 m3 m4 m5 m6 m7 m8 m9 m10 m11 m12 m13 m14 m15 a3 b3 c3 d3 a2 b2 c2 d2 a1 b1 c1 d1 a0 b0 c0 d0 _).mono ?_
  rw [HTE.out]
  rintro e u16_ ⟨rfl, hb⟩
  have HD16 := Lib.hid (HD15.out.trans (hb.mono lw15))
  have lw16 : w.heap.size ≤ u16_.heap.size := Nat.le_trans lw15 hb.size
  have Hb2_16 := Lib.hid ((hb.block _ lb2_15).trans Hb2_15.out)
  have lb2_16 : w.heap.size < u16_.heap.size := Nat.lt_of_lt_of_le lb2_15 hb.size
  have Hb3_16 := Lib.hid ((hb.block _ lb3_15).trans Hb3_15.out)
  have lb3_16 : w.heap.size + 1 < u16_.heap.size := Nat.lt_of_lt_of_le lb3_15 hb.size
  have Hb5_16 := Lib.hid ((hb.block _ lb5_15).trans Hb5_15.out)
  have lb5_16 : BB2 < u16_.heap.size := Nat.lt_of_lt_of_le lb5_15 hb.size
  have Hb7_16 := Lib.hid ((hb.block _ lb7_15).trans Hb7_15.out)
  have lb7_16 : BB4 < u16_.heap.size := Nat.lt_of_lt_of_le lb7_15 hb.size
  have Hb9_16 := Lib.hid ((hb.block _ lb9_15).trans Hb9_15.out)
  have lb9_16 : BB5 < u16_.heap.size := Nat.lt_of_lt_of_le lb9_15 hb.size
  have Hb10_16 := Lib.hid ((hb.block _ lb10_15).trans Hb10_15.out)
  have lb10_16 : BB7 < u16_.heap.size := Nat.lt_of_lt_of_le lb10_15 hb.size
  have Hb13_16 := Lib.hid ((hb.block _ lb13_15).trans Hb13_15.out)
  have lb13_16 : BB13 < u16_.heap.size := Nat.lt_of_lt_of_le lb13_15 hb.size
  have Hb14_16 := Lib.hid ((hb.block _ lb14_15).trans Hb14_15.out)
  have lb14_16 : BB15 < u16_.heap.size := Nat.lt_of_lt_of_le lb14_15 hb.size
  clear hb HD15 lw15 Hb2_15 lb2_15 Hb3_15 lb3_15 Hb5_15 lb5_15 Hb7_15 lb7_15 Hb9_15 lb9_15 Hb10_15 lb10_15 Hb13_15 lb13_15 Hb14_15 lb14_15
  refine hK _ _ ?_
  clear hK K
  refine wpList_step (fun K hK => ?_); go_simp; refine hK _ _ ?_; clear hK K
  refine wpList_step (fun K hK => ?_); go_simp; refine hK _ _ ?_; clear hK K
  refine wpList_step (fun K hK => ?_); go_simp; refine hK _ _ ?_; clear hK K
  refine wpList_step (fun K hK => ?_); go_simp; refine hK _ _ ?_; clear hK K
  have HTH := Lib.hid (there_mid (heap_alloc_new u16_ (.cells #[.int .i64 0, .int .i64 0, .int .i64 0, .int .i64 0, .int .i64 0, .int .i64 0, .int .i64 0, .int .i64 0, .int .i64 0, .int .i64 0, .int .i64 0, .int .i64 0, .int .i64 0, .int .i64 0, .int .i64 0, .int .i64 0] 49)) 0 16 (show 0 + 16 ≤ 16 by decide))
  refine wpList_store_mid rfl 49 (.tmp 15) (.tmp 98) rfl u16_.heap.size 0 #[.int .i64 t0, .int .i64 t1, .int .i64 t2, .int .i64 t3, .int .i64 t4, .int .i64 t5, .int .i64 t6, .int .i64 t7, .int .i64 t8, .int .i64 t9, .int .i64 t10, .int .i64 t11, .int .i64 t12, .int .i64 t13, .int .i64 t14, .int .i64 t15] rfl rfl HTH.out (by kernel_rfl) (by simp [Value.oneCell']) ?_
  (try rw [show (#[.int .i64 t0, .int .i64 t1, .int .i64 t2, .int .i64 t3, .int .i64 t4, .int .i64 t5, .int .i64 t6, .int .i64 t7, .int .i64 t8, .int .i64 t9, .int .i64 t10, .int .i64 t11, .int .i64 t12, .int .i64 t13, .int .i64 t14, .int .i64 t15] : Array Value).toList = [.int .i64 t0, .int .i64 t1, .int .i64 t2, .int .i64 t3, .int .i64 t4, .int .i64 t5, .int .i64 t6, .int .i64 t7, .int .i64 t8, .int .i64 t9, .int .i64 t10, .int .i64 t11, .int .i64 t12, .int .i64 t13, .int .i64 t14, .int .i64 t15] from rfl])
  have hba : Below u16_.heap.size u16_ (u16_.alloc (.cells #[.int .i64 0, .int .i64 0, .int .i64 0, .int .i64 0, .int .i64 0, .int .i64 0, .int .i64 0, .int .i64 0, .int .i64 0, .int .i64 0, .int .i64 0, .int .i64 0, .int .i64 0, .int .i64 0, .int .i64 0, .int .i64 0] 49)) := bal (Below.refl _ _) _
  have hb : Below u16_.heap.size u16_ ((u16_.alloc (.cells #[.int .i64 0, .int .i64 0, .int .i64 0, .int .i64 0, .int .i64 0, .int .i64 0, .int .i64 0, .int .i64 0, .int .i64 0, .int .i64 0, .int .i64 0, .int .i64 0, .int .i64 0, .int .i64 0, .int .i64 0, .int .i64 0] 49)).setCells u16_.heap.size 0 [.int .i64 t0, .int .i64 t1, .int .i64 t2, .int .i64 t3, .int .i64 t4, .int .i64 t5, .int .i64 t6, .int .i64 t7, .int .i64 t8, .int .i64 t9, .int .i64 t10, .int .i64 t11, .int .i64 t12, .int .i64 t13, .int .i64 t14, .int .i64 t15]) := below_mids (Nat.le_refl _) _ _ hba
  have hnb : ((u16_.alloc (.cells #[.int .i64 0, .int .i64 0, .int .i64 0, .int .i64 0, .int .i64 0, .int .i64 0, .int .i64 0, .int .i64 0, .int .i64 0, .int .i64 0, .int .i64 0, .int .i64 0, .int .i64 0, .int .i64 0, .int .i64 0, .int .i64 0] 49)).setCells u16_.heap.size 0 [.int .i64 t0, .int .i64 t1, .int .i64 t2, .int .i64 t3, .int .i64 t4, .int .i64 t5, .int .i64 t6, .int .i64 t7, .int .i64 t8, .int .i64 t9, .int .i64 t10, .int .i64 t11, .int .i64 t12, .int .i64 t13, .int .i64 t14, .int .i64 t15]).heap[u16_.heap.size]? = some (.cells #[.int .i64 t0, .int .i64 t1, .int .i64 t2, .int .i64 t3, .int .i64 t4, .int .i64 t5, .int .i64 t6, .int .i64 t7, .int .i64 t8, .int .i64 t9, .int .i64 t10, .int .i64 t11, .int .i64 t12, .int .i64 t13, .int .i64 t14, .int .i64 t15] 49 (0, 0)) := block_whole [.int .i64 t0, .int .i64 t1, .int .i64 t2, .int .i64 t3, .int .i64 t4, .int .i64 t5, .int .i64 t6, .int .i64 t7, .int .i64 t8, .int .i64 t9, .int .i64 t10, .int .i64 t11, .int .i64 t12, .int .i64 t13, .int .i64 t14, .int .i64 t15] (heap_alloc_new u16_ (.cells #[.int .i64 0, .int .i64 0, .int .i64 0, .int .i64 0, .int .i64 0, .int .i64 0, .int .i64 0, .int .i64 0, .int .i64 0, .int .i64 0, .int .i64 0, .int .i64 0, .int .i64 0, .int .i64 0, .int .i64 0, .int .i64 0] 49)) rfl
  have hlb : u16_.heap.size < ((u16_.alloc (.cells #[.int .i64 0, .int .i64 0, .int .i64 0, .int .i64 0, .int .i64 0, .int .i64 0, .int .i64 0, .int .i64 0, .int .i64 0, .int .i64 0, .int .i64 0, .int .i64 0, .int .i64 0, .int .i64 0, .int .i64 0, .int .i64 0] 49)).setCells u16_.heap.size 0 [.int .i64 t0, .int .i64 t1, .int .i64 t2, .int .i64 t3, .int .i64 t4, .int .i64 t5, .int .i64 t6, .int .i64 t7, .int .i64 t8, .int .i64 t9, .int .i64 t10, .int .i64 t11, .int .i64 t12, .int .i64 t13, .int .i64 t14, .int .i64 t15]).heap.size := (Array.getElem?_eq_some_iff.1 hnb).1
  have HD17 := Lib.hid (HD16.out.trans (hb.mono lw16))
  have lw17 : w.heap.size ≤ ((u16_.alloc (.cells #[.int .i64 0, .int .i64 0, .int .i64 0, .int .i64 0, .int .i64 0, .int .i64 0, .int .i64 0, .int .i64 0, .int .i64 0, .int .i64 0, .int .i64 0, .int .i64 0, .int .i64 0, .int .i64 0, .int .i64 0, .int .i64 0] 49)).setCells u16_.heap.size 0 [.int .i64 t0, .int .i64 t1, .int .i64 t2, .int .i64 t3, .int .i64 t4, .int .i64 t5, .int .i64 t6, .int .i64 t7, .int .i64 t8, .int .i64 t9, .int .i64 t10, .int .i64 t11, .int .i64 t12, .int .i64 t13, .int .i64 t14, .int .i64 t15]).heap.size := Nat.le_trans lw16 hb.size
  have Hb2_17 := Lib.hid ((hb.block _ lb2_16).trans Hb2_16.out)
  have lb2_17 : w.heap.size < ((u16_.alloc (.cells #[.int .i64 0, .int .i64 0, .int .i64 0, .int .i64 0, .int .i64 0, .int .i64 0, .int .i64 0, .int .i64 0, .int .i64 0, .int .i64 0, .int .i64 0, .int .i64 0, .int .i64 0, .int .i64 0, .int .i64 0, .int .i64 0] 49)).setCells u16_.heap.size 0 [.int .i64 t0, .int .i64 t1, .int .i64 t2, .int .i64 t3, .int .i64 t4, .int .i64 t5, .int .i64 t6, .int .i64 t7, .int .i64 t8, .int .i64 t9, .int .i64 t10, .int .i64 t11, .int .i64 t12, .int .i64 t13, .int .i64 t14, .int .i64 t15]).heap.size := Nat.lt_of_lt_of_le lb2_16 hb.size
  have Hb3_17 := Lib.hid ((hb.block _ lb3_16).trans Hb3_16.out)
  have lb3_17 : w.heap.size + 1 < ((u16_.alloc (.cells #[.int .i64 0, .int .i64 0, .int .i64 0, .int .i64 0, .int .i64 0, .int .i64 0, .int .i64 0, .int .i64 0, .int .i64 0, .int .i64 0, .int .i64 0, .int .i64 0, .int .i64 0, .int .i64 0, .int .i64 0, .int .i64 0] 49)).setCells u16_.heap.size 0 [.int .i64 t0, .int .i64 t1, .int .i64 t2, .int .i64 t3, .int .i64 t4, .int .i64 t5, .int .i64 t6, .int .i64 t7, .int .i64 t8, .int .i64 t9, .int .i64 t10, .int .i64 t11, .int .i64 t12, .int .i64 t13, .int .i64 t14, .int .i64 t15]).heap.size := Nat.lt_of_lt_of_le lb3_16 hb.size
  have Hb5_17 := Lib.hid ((hb.block _ lb5_16).trans Hb5_16.out)
  have lb5_17 : BB2 < ((u16_.alloc (.cells #[.int .i64 0, .int .i64 0, .int .i64 0, .int .i64 0, .int .i64 0, .int .i64 0, .int .i64 0, .int .i64 0, .int .i64 0, .int .i64 0, .int .i64 0, .int .i64 0, .int .i64 0, .int .i64 0, .int .i64 0, .int .i64 0] 49)).setCells u16_.heap.size 0 [.int .i64 t0, .int .i64 t1, .int .i64 t2, .int .i64 t3, .int .i64 t4, .int .i64 t5, .int .i64 t6, .int .i64 t7, .int .i64 t8, .int .i64 t9, .int .i64 t10, .int .i64 t11, .int .i64 t12, .int .i64 t13, .int .i64 t14, .int .i64 t15]).heap.size := Nat.lt_of_lt_of_le lb5_16 hb.size
  have Hb7_17 := Lib.hid ((hb.block _ lb7_16).trans Hb7_16.out)
  have lb7_17 : BB4 < ((u16_.alloc (.cells #[.int .i64 0, .int .i64 0, .int .i64 0, .int .i64 0, .int .i64 0, .int .i64 0, .int .i64 0, .int .i64 0, .int .i64 0, .int .i64 0, .int .i64 0, .int .i64 0, .int .i64 0, .int .i64 0, .int .i64 0, .int .i64 0] 49)).setCells u16_.heap.size 0 [.int .i64 t0, .int .i64 t1, .int .i64 t2, .int .i64 t3, .int .i64 t4, .int .i64 t5, .int .i64 t6, .int .i64 t7, .int .i64 t8, .int .i64 t9, .int .i64 t10, .int .i64 t11, .int .i64 t12, .int .i64 t13, .int .i64 t14, .int .i64 t15]).heap.size := Nat.lt_of_lt_of_le lb7_16 hb.size
  have Hb9_17 := Lib.hid ((hb.block _ lb9_16).trans Hb9_16.out)
  have lb9_17 : BB5 < ((u16_.alloc (.cells #[.int .i64 0, .int .i64 0, .int .i64 0, .int .i64 0, .int .i64 0, .int .i64 0, .int .i64 0, .int .i64 0, .int .i64 0, .int .i64 0, .int .i64 0, .int .i64 0, .int .i64 0, .int .i64 0, .int .i64 0, .int .i64 0] 49)).setCells u16_.heap.size 0 [.int .i64 t0, .int .i64 t1, .int .i64 t2, .int .i64 t3, .int .i64 t4, .int .i64 t5, .int .i64 t6, .int .i64 t7, .int .i64 t8, .int .i64 t9, .int .i64 t10, .int .i64 t11, .int .i64 t12, .int .i64 t13, .int .i64 t14, .int .i64 t15]).heap.size := Nat.lt_of_lt_of_le lb9_16 hb.size
  have Hb10_17 := Lib.hid ((hb.block _ lb10_16).trans Hb10_16.out)
  have lb10_17 : BB7 < ((u16_.alloc (.cells #[.int .i64 0, .int .i64 0, .int .i64 0, .int .i64 0, .int .i64 0, .int .i64 0, .int .i64 0, .int .i64 0, .int .i64 0, .int .i64 0, .int .i64 0, .int .i64 0, .int .i64 0, .int .i64 0, .int .i64 0, .int .i64 0] 49)).setCells u16_.heap.size 0 [.int .i64 t0, .int .i64 t1, .int .i64 t2, .int .i64 t3, .int .i64 t4, .int .i64 t5, .int .i64 t6, .int .i64 t7, .int .i64 t8, .int .i64 t9, .int .i64 t10, .int .i64 t11, .int .i64 t12, .int .i64 t13, .int .i64 t14, .int .i64 t15]).heap.size := Nat.lt_of_lt_of_le lb10_16 hb.size
  have Hb13_17 := Lib.hid ((hb.block _ lb13_16).trans Hb13_16.out)
  have lb13_17 : BB13 < ((u16_.alloc (.cells #[.int .i64 0, .int .i64 0, .int .i64 0, .int .i64 0, .int .i64 0, .int .i64 0, .int .i64 0, .int .i64 0, .int .i64 0, .int .i64 0, .int .i64 0, .int .i64 0, .int .i64 0, .int .i64 0, .int .i64 0, .int .i64 0] 49)).setCells u16_.heap.size 0 [.int .i64 t0, .int .i64 t1, .int .i64 t2, .int .i64 t3, .int .i64 t4, .int .i64 t5, .int .i64 t6, .int .i64 t7, .int .i64 t8, .int .i64 t9, .int .i64 t10, .int .i64 t11, .int .i64 t12, .int .i64 t13, .int .i64 t14, .int .i64 t15]).heap.size := Nat.lt_of_lt_of_le lb13_16 hb.size
  have Hb14_17 := Lib.hid ((hb.block _ lb14_16).trans Hb14_16.out)
  have lb14_17 : BB15 < ((u16_.alloc (.cells #[.int .i64 0, .int .i64 0, .int .i64 0, .int .i64 0, .int .i64 0, .int .i64 0, .int .i64 0, .int .i64 0, .int .i64 0, .int .i64 0, .int .i64 0, .int .i64 0, .int .i64 0, .int .i64 0, .int .i64 0, .int .i64 0] 49)).setCells u16_.heap.size 0 [.int .i64 t0, .int .i64 t1, .int .i64 t2, .int .i64 t3, .int .i64 t4, .int .i64 t5, .int .i64 t6, .int .i64 t7, .int .i64 t8, .int .i64 t9, .int .i64 t10, .int .i64 t11, .int .i64 t12, .int .i64 t13, .int .i64 t14, .int .i64 t15]).heap.size := Nat.lt_of_lt_of_le lb14_16 hb.size
  have Hb15_17 := Lib.hid hnb
  have lb15_17 := hlb
  clear hb hba hnb hlb HTH HD16 lw16 Hb2_16 lb2_16 Hb3_16 lb3_16 Hb5_16 lb5_16 Hb7_16 lb7_16 Hb9_16 lb9_16 Hb10_16 lb10_16 Hb13_16 lb13_16 Hb14_16 lb14_16
  generalize ((u16_.alloc (.cells #[.int .i64 0, .int .i64 0, .int .i64 0, .int .i64 0, .int .i64 0, .int .i64 0, .int .i64 0, .int .i64 0, .int .i64 0, .int .i64 0, .int .i64 0, .int .i64 0, .int .i64 0, .int .i64 0, .int .i64 0, .int .i64 0] 49)).setCells u16_.heap.size 0 [.int .i64 t0, .int .i64 t1, .int .i64 t2, .int .i64 t3, .int .i64 t4, .int .i64 t5, .int .i64 t6, .int .i64 t7, .int .i64 t8, .int .i64 t9, .int .i64 t10, .int .i64 t11, .int .i64 t12, .int .i64 t13, .int .i64 t14, .int .i64 t15]) = U17 at *
  generalize u16_.heap.size = BB17 at *
  refine wpList_step (fun K hK => ?_); go_simp; refine hK _ _ ?_; clear hK K
  refine wpList_nil ?_
  by_cases h1 : be = 0
  case neg =>
    have hb1 : (be != 0) = true := bne_iff_ne.2 h1
    clear h1
    go_upto_region 23 with fail
    refine wp_region_lit ?_
    refine wpList_step (fun K hK => ?_); go_simp; refine hK _ _ ?_; clear hK K
    refine wpList_step (fun K hK => ?_); go_simp; refine hK _ _ ?_; clear hK K
    refine wpList_step (fun K hK => ?_); go_simp; refine hK _ _ ?_; clear hK K
    refine wpList_skip (by rfl) ?_
    refine wpList_skip (by rfl) ?_
    refine wpList_step (fun K hK => ?_); go_simp; refine hK _ _ ?_; clear hK K
    refine wpList_step (fun K hK => ?_); go_simp; refine hK _ _ ?_; clear hK K
    refine wpList_skip (by rfl) ?_
    refine wpList_skip (by rfl) ?_
    refine wpList_step (fun K hK => ?_); go_simp; refine hK _ _ ?_; clear hK K
    refine wpList_nil ?_
    go_upto_region 24 with fail
    refine wp_region_lit ?_
    refine wpList_step (fun K hK => ?_)
    go_simp
    refine (eawake_any _).mono ?_
    rintro e u18_ ⟨rfl, hb⟩
    have HD18 := Lib.hid (HD17.out.trans (hb.mono lw17))
    have lw18 : w.heap.size ≤ u18_.heap.size := Nat.le_trans lw17 hb.size
    have Hb2_18 := Lib.hid ((hb.block _ lb2_17).trans Hb2_17.out)
    have lb2_18 : w.heap.size < u18_.heap.size := Nat.lt_of_lt_of_le lb2_17 hb.size
    have Hb3_18 := Lib.hid ((hb.block _ lb3_17).trans Hb3_17.out)
    have lb3_18 : w.heap.size + 1 < u18_.heap.size := Nat.lt_of_lt_of_le lb3_17 hb.size
    have Hb5_18 := Lib.hid ((hb.block _ lb5_17).trans Hb5_17.out)
    have lb5_18 : BB2 < u18_.heap.size := Nat.lt_of_lt_of_le lb5_17 hb.size
    have Hb7_18 := Lib.hid ((hb.block _ lb7_17).trans Hb7_17.out)
    have lb7_18 : BB4 < u18_.heap.size := Nat.lt_of_lt_of_le lb7_17 hb.size
    have Hb9_18 := Lib.hid ((hb.block _ lb9_17).trans Hb9_17.out)
    have lb9_18 : BB5 < u18_.heap.size := Nat.lt_of_lt_of_le lb9_17 hb.size
    have Hb10_18 := Lib.hid ((hb.block _ lb10_17).trans Hb10_17.out)
    have lb10_18 : BB7 < u18_.heap.size := Nat.lt_of_lt_of_le lb10_17 hb.size
    have Hb13_18 := Lib.hid ((hb.block _ lb13_17).trans Hb13_17.out)
    have lb13_18 : BB13 < u18_.heap.size := Nat.lt_of_lt_of_le lb13_17 hb.size
    have Hb14_18 := Lib.hid ((hb.block _ lb14_17).trans Hb14_17.out)
    have lb14_18 : BB15 < u18_.heap.size := Nat.lt_of_lt_of_le lb14_17 hb.size
    have Hb15_18 := Lib.hid ((hb.block _ lb15_17).trans Hb15_17.out)
    have lb15_18 : BB17 < u18_.heap.size := Nat.lt_of_lt_of_le lb15_17 hb.size
    clear hb HD17 lw17 Hb2_17 lb2_17 Hb3_17 lb3_17 Hb5_17 lb5_17 Hb7_17 lb7_17 Hb9_17 lb9_17 Hb10_17 lb10_17 Hb13_17 lb13_17 Hb14_17 lb14_17 Hb15_17 lb15_17
    refine hK _ _ ?_
    clear hK K
    refine wpList_step (fun K hK => ?_); go_simp; refine hK _ _ ?_; clear hK K
    refine wpList_nil ?_
    refine (‹∀ (a : Act) (w : World), Code.wp Try.prog Code.ret _ a w → _› _ _ ?_)
    apply wp_ret
    (try unfold Exit.then)
    (try dsimp only)
    (try simp only [act_all])
    refine bodyPost_ret (v := .bool true) (by simp [results, Try.results14, go_sem]) rfl ⟨rfl, HD18.out⟩
  subst h1
  by_cases h2 : je = 0
  case neg =>
    have hb1 : (je != 0) = true := bne_iff_ne.2 h2
    clear h2
    go_upto_region 23 with fail
    refine wp_region_lit ?_
    refine wpList_step (fun K hK => ?_); go_simp; refine hK _ _ ?_; clear hK K
    refine wpList_step (fun K hK => ?_); go_simp; refine hK _ _ ?_; clear hK K
    refine wpList_step (fun K hK => ?_); go_simp; refine hK _ _ ?_; clear hK K
    refine wpList_step (fun K hK => ?_); go_simp; refine hK _ _ ?_; clear hK K
    refine wpList_step (fun K hK => ?_); go_simp; refine hK _ _ ?_; clear hK K
    refine wpList_step (fun K hK => ?_); go_simp; refine hK _ _ ?_; clear hK K
    refine wpList_step (fun K hK => ?_); go_simp; refine hK _ _ ?_; clear hK K
    refine wpList_skip (by rfl) ?_
    refine wpList_skip (by rfl) ?_
    refine wpList_step (fun K hK => ?_); go_simp; refine hK _ _ ?_; clear hK K
    refine wpList_nil ?_
    go_upto_region 24 with fail
    refine wp_region_lit ?_
    refine wpList_step (fun K hK => ?_)
    go_simp
    refine (eawake_any _).mono ?_
    rintro e u19_ ⟨rfl, hb⟩
    have HD19 := Lib.hid (HD17.out.trans (hb.mono lw17))
    have lw19 : w.heap.size ≤ u19_.heap.size := Nat.le_trans lw17 hb.size
    have Hb2_19 := Lib.hid ((hb.block _ lb2_17).trans Hb2_17.out)
    have lb2_19 : w.heap.size < u19_.heap.size := Nat.lt_of_lt_of_le lb2_17 hb.size
    have Hb3_19 := Lib.hid ((hb.block _ lb3_17).trans Hb3_17.out)
    have lb3_19 : w.heap.size + 1 < u19_.heap.size := Nat.lt_of_lt_of_le lb3_17 hb.size
    have Hb5_19 := Lib.hid ((hb.block _ lb5_17).trans Hb5_17.out)
    have lb5_19 : BB2 < u19_.heap.size := Nat.lt_of_lt_of_le lb5_17 hb.size
    have Hb7_19 := Lib.hid ((hb.block _ lb7_17).trans Hb7_17.out)
    have lb7_19 : BB4 < u19_.heap.size := Nat.lt_of_lt_of_le lb7_17 hb.size
    have Hb9_19 := Lib.hid ((hb.block _ lb9_17).trans Hb9_17.out)
    have lb9_19 : BB5 < u19_.heap.size := Nat.lt_of_lt_of_le lb9_17 hb.size
    have Hb10_19 := Lib.hid ((hb.block _ lb10_17).trans Hb10_17.out)
    have lb10_19 : BB7 < u19_.heap.size := Nat.lt_of_lt_of_le lb10_17 hb.size
    have Hb13_19 := Lib.hid ((hb.block _ lb13_17).trans Hb13_17.out)
    have lb13_19 : BB13 < u19_.heap.size := Nat.lt_of_lt_of_le lb13_17 hb.size
    have Hb14_19 := Lib.hid ((hb.block _ lb14_17).trans Hb14_17.out)
    have lb14_19 : BB15 < u19_.heap.size := Nat.lt_of_lt_of_le lb14_17 hb.size
    have Hb15_19 := Lib.hid ((hb.block _ lb15_17).trans Hb15_17.out)
    have lb15_19 : BB17 < u19_.heap.size := Nat.lt_of_lt_of_le lb15_17 hb.size
    clear hb HD17 lw17 Hb2_17 lb2_17 Hb3_17 lb3_17 Hb5_17 lb5_17 Hb7_17 lb7_17 Hb9_17 lb9_17 Hb10_17 lb10_17 Hb13_17 lb13_17 Hb14_17 lb14_17 Hb15_17 lb15_17
    refine hK _ _ ?_
    clear hK K
    refine wpList_step (fun K hK => ?_); go_simp; refine hK _ _ ?_; clear hK K
    refine wpList_nil ?_
    refine (‹∀ (a : Act) (w : World), Code.wp Try.prog Code.ret _ a w → _› _ _ ?_)
    apply wp_ret
    (try unfold Exit.then)
    (try dsimp only)
    (try simp only [act_all])
    refine bodyPost_ret (v := .bool true) (by simp [results, Try.results14, go_sem]) rfl ⟨rfl, HD19.out⟩
  subst h2
  by_cases h3 : te = 0
  case neg =>
    have hb1 : (te != 0) = true := bne_iff_ne.2 h3
    clear h3
    go_upto_region 23 with fail
    refine wp_region_lit ?_
    refine wpList_step (fun K hK => ?_); go_simp; refine hK _ _ ?_; clear hK K
    refine wpList_step (fun K hK => ?_); go_simp; refine hK _ _ ?_; clear hK K
    refine wpList_step (fun K hK => ?_); go_simp; refine hK _ _ ?_; clear hK K
    refine wpList_step (fun K hK => ?_); go_simp; refine hK _ _ ?_; clear hK K
    refine wpList_step (fun K hK => ?_); go_simp; refine hK _ _ ?_; clear hK K
    refine wpList_step (fun K hK => ?_); go_simp; refine hK _ _ ?_; clear hK K
    refine wpList_step (fun K hK => ?_); go_simp; refine hK _ _ ?_; clear hK K
    refine wpList_step (fun K hK => ?_); go_simp; refine hK _ _ ?_; clear hK K
    refine wpList_step (fun K hK => ?_); go_simp; refine hK _ _ ?_; clear hK K
    refine wpList_step (fun K hK => ?_); go_simp; refine hK _ _ ?_; clear hK K
    refine wpList_nil ?_
    go_upto_region 24 with fail
    refine wp_region_lit ?_
    refine wpList_step (fun K hK => ?_)
    go_simp
    refine (eawake_any _).mono ?_
    rintro e u20_ ⟨rfl, hb⟩
    have HD20 := Lib.hid (HD17.out.trans (hb.mono lw17))
    have lw20 : w.heap.size ≤ u20_.heap.size := Nat.le_trans lw17 hb.size
    have Hb2_20 := Lib.hid ((hb.block _ lb2_17).trans Hb2_17.out)
    have lb2_20 : w.heap.size < u20_.heap.size := Nat.lt_of_lt_of_le lb2_17 hb.size
    have Hb3_20 := Lib.hid ((hb.block _ lb3_17).trans Hb3_17.out)
    have lb3_20 : w.heap.size + 1 < u20_.heap.size := Nat.lt_of_lt_of_le lb3_17 hb.size
    have Hb5_20 := Lib.hid ((hb.block _ lb5_17).trans Hb5_17.out)
    have lb5_20 : BB2 < u20_.heap.size := Nat.lt_of_lt_of_le lb5_17 hb.size
    have Hb7_20 := Lib.hid ((hb.block _ lb7_17).trans Hb7_17.out)
    have lb7_20 : BB4 < u20_.heap.size := Nat.lt_of_lt_of_le lb7_17 hb.size
    have Hb9_20 := Lib.hid ((hb.block _ lb9_17).trans Hb9_17.out)
    have lb9_20 : BB5 < u20_.heap.size := Nat.lt_of_lt_of_le lb9_17 hb.size
    have Hb10_20 := Lib.hid ((hb.block _ lb10_17).trans Hb10_17.out)
    have lb10_20 : BB7 < u20_.heap.size := Nat.lt_of_lt_of_le lb10_17 hb.size
    have Hb13_20 := Lib.hid ((hb.block _ lb13_17).trans Hb13_17.out)
    have lb13_20 : BB13 < u20_.heap.size := Nat.lt_of_lt_of_le lb13_17 hb.size
    have Hb14_20 := Lib.hid ((hb.block _ lb14_17).trans Hb14_17.out)
    have lb14_20 : BB15 < u20_.heap.size := Nat.lt_of_lt_of_le lb14_17 hb.size
    have Hb15_20 := Lib.hid ((hb.block _ lb15_17).trans Hb15_17.out)
    have lb15_20 : BB17 < u20_.heap.size := Nat.lt_of_lt_of_le lb15_17 hb.size
    clear hb HD17 lw17 Hb2_17 lb2_17 Hb3_17 lb3_17 Hb5_17 lb5_17 Hb7_17 lb7_17 Hb9_17 lb9_17 Hb10_17 lb10_17 Hb13_17 lb13_17 Hb14_17 lb14_17 Hb15_17 lb15_17
    refine hK _ _ ?_
    clear hK K
    refine wpList_step (fun K hK => ?_); go_simp; refine hK _ _ ?_; clear hK K
    refine wpList_nil ?_
    refine (‹∀ (a : Act) (w : World), Code.wp Try.prog Code.ret _ a w → _› _ _ ?_)
    apply wp_ret
    (try unfold Exit.then)
    (try dsimp only)
    (try simp only [act_all])
    refine bodyPost_ret (v := .bool true) (by simp [results, Try.results14, go_sem]) rfl ⟨rfl, HD20.out⟩
  subst h3
  have HFIN : Hid (okP ⟨⟨j0, j1⟩, ⟨j2, j3⟩⟩ ⟨⟨j4, j5⟩, ⟨j6, j7⟩⟩ ⟨⟨j8, j9⟩, ⟨j10, j11⟩⟩ ⟨⟨j12, j13⟩, ⟨j14, j15⟩⟩ = true ∧ OutO (mirO ⟨⟨t0, t1⟩, ⟨t2, t3⟩⟩ ⟨⟨t4, t5⟩, ⟨t6, t7⟩⟩ ⟨⟨t8, t9⟩, ⟨t10, t11⟩⟩ ⟨⟨t12, t13⟩, ⟨t14, t15⟩⟩) = .returned (.tuple #[.agg #[.int .i64 j0, .int .i64 j1, .int .i64 j2, .int .i64 j3, .int .i64 j4, .int .i64 j5, .int .i64 j6, .int .i64 j7, .int .i64 j8, .int .i64 j9, .int .i64 j10, .int .i64 j11, .int .i64 j12, .int .i64 j13, .int .i64 j14, .int .i64 j15], .int .i64 0])) := Lib.hid (mirrors_fin HPP.out HBE.out HJE.out HTE.out)
  have HOJ := Lib.hid HFIN.out.1
  have HFM := Lib.hid HFIN.out.2
  go_upto_region 23 with fail
  refine wp_region_lit ?_
  refine wpList_step (fun K hK => ?_); go_simp; refine hK _ _ ?_; clear hK K
  refine wpList_step (fun K hK => ?_); go_simp; refine hK _ _ ?_; clear hK K
  refine wpList_step (fun K hK => ?_); go_simp; refine hK _ _ ?_; clear hK K
  refine wpList_step (fun K hK => ?_); go_simp; refine hK _ _ ?_; clear hK K
  refine wpList_step (fun K hK => ?_); go_simp; refine hK _ _ ?_; clear hK K
  refine wpList_step (fun K hK => ?_); go_simp; refine hK _ _ ?_; clear hK K
  refine wpList_step (fun K hK => ?_); go_simp; refine hK _ _ ?_; clear hK K
  refine wpList_step (fun K hK => ?_); go_simp; refine hK _ _ ?_; clear hK K
  refine wpList_step (fun K hK => ?_); go_simp; refine hK _ _ ?_; clear hK K
  refine wpList_step (fun K hK => ?_); go_simp; refine hK _ _ ?_; clear hK K
  refine wpList_nil ?_
  go_upto_region 25 with fail
  refine wp_region_lit ?_
  refine wpList_load_mid rfl 49 (.tmp 15) rfl (BB17) 0 rfl [.int .i64 t0, .int .i64 t1, .int .i64 t2, .int .i64 t3, .int .i64 t4, .int .i64 t5, .int .i64 t6, .int .i64 t7, .int .i64 t8, .int .i64 t9, .int .i64 t10, .int .i64 t11, .int .i64 t12, .int .i64 t13, .int .i64 t14, .int .i64 t15] _ (range_row Hb15_17.out 0 [.int .i64 t0, .int .i64 t1, .int .i64 t2, .int .i64 t3, .int .i64 t4, .int .i64 t5, .int .i64 t6, .int .i64 t7, .int .i64 t8, .int .i64 t9, .int .i64 t10, .int .i64 t11, .int .i64 t12, .int .i64 t13, .int .i64 t14, .int .i64 t15] (fun j hj => by simp only [Nat.zero_add, List.getElem?_toArray])) Try.underlying49 rfl (by kernel_rfl) ?_
  refine wpList_step (fun K hK => ?_)
  go_simp
  refine (eMirror_any t0 t1 t2 t3 t4 t5 t6 t7 t8 t9 t10 t11 t12 t13 t14 t15 _).mono ?_
  rw [HFM.out]
  rintro e u21_ ⟨rfl, hb⟩
  have HD21 := Lib.hid (HD17.out.trans (hb.mono lw17))
  have lw21 : w.heap.size ≤ u21_.heap.size := Nat.le_trans lw17 hb.size
  have Hb2_21 := Lib.hid ((hb.block _ lb2_17).trans Hb2_17.out)
  have lb2_21 : w.heap.size < u21_.heap.size := Nat.lt_of_lt_of_le lb2_17 hb.size
  have Hb3_21 := Lib.hid ((hb.block _ lb3_17).trans Hb3_17.out)
  have lb3_21 : w.heap.size + 1 < u21_.heap.size := Nat.lt_of_lt_of_le lb3_17 hb.size
  have Hb5_21 := Lib.hid ((hb.block _ lb5_17).trans Hb5_17.out)
  have lb5_21 : BB2 < u21_.heap.size := Nat.lt_of_lt_of_le lb5_17 hb.size
  have Hb7_21 := Lib.hid ((hb.block _ lb7_17).trans Hb7_17.out)
  have lb7_21 : BB4 < u21_.heap.size := Nat.lt_of_lt_of_le lb7_17 hb.size
  have Hb9_21 := Lib.hid ((hb.block _ lb9_17).trans Hb9_17.out)
  have lb9_21 : BB5 < u21_.heap.size := Nat.lt_of_lt_of_le lb9_17 hb.size
  have Hb10_21 := Lib.hid ((hb.block _ lb10_17).trans Hb10_17.out)
  have lb10_21 : BB7 < u21_.heap.size := Nat.lt_of_lt_of_le lb10_17 hb.size
  have Hb13_21 := Lib.hid ((hb.block _ lb13_17).trans Hb13_17.out)
  have lb13_21 : BB13 < u21_.heap.size := Nat.lt_of_lt_of_le lb13_17 hb.size
  have Hb14_21 := Lib.hid ((hb.block _ lb14_17).trans Hb14_17.out)
  have lb14_21 : BB15 < u21_.heap.size := Nat.lt_of_lt_of_le lb14_17 hb.size
  have Hb15_21 := Lib.hid ((hb.block _ lb15_17).trans Hb15_17.out)
  have lb15_21 : BB17 < u21_.heap.size := Nat.lt_of_lt_of_le lb15_17 hb.size
  clear hb HD17 lw17 Hb2_17 lb2_17 Hb3_17 lb3_17 Hb5_17 lb5_17 Hb7_17 lb7_17 Hb9_17 lb9_17 Hb10_17 lb10_17 Hb13_17 lb13_17 Hb14_17 lb14_17 Hb15_17 lb15_17
  refine hK _ _ ?_
  clear hK K
  refine wpList_step (fun K hK => ?_); go_simp; refine hK _ _ ?_; clear hK K
  refine wpList_step (fun K hK => ?_); go_simp; refine hK _ _ ?_; clear hK K
  refine wpList_step (fun K hK => ?_); go_simp; refine hK _ _ ?_; clear hK K
  refine wpList_step (fun K hK => ?_); go_simp; refine hK _ _ ?_; clear hK K
  have HTH := Lib.hid (there_mid (heap_alloc_new u21_ (.cells #[.int .i64 0, .int .i64 0, .int .i64 0, .int .i64 0, .int .i64 0, .int .i64 0, .int .i64 0, .int .i64 0, .int .i64 0, .int .i64 0, .int .i64 0, .int .i64 0, .int .i64 0, .int .i64 0, .int .i64 0, .int .i64 0] 49)) 0 16 (show 0 + 16 ≤ 16 by decide))
  refine wpList_store_mid rfl 49 (.tmp 17) (.tmp 114) rfl u21_.heap.size 0 #[.int .i64 j0, .int .i64 j1, .int .i64 j2, .int .i64 j3, .int .i64 j4, .int .i64 j5, .int .i64 j6, .int .i64 j7, .int .i64 j8, .int .i64 j9, .int .i64 j10, .int .i64 j11, .int .i64 j12, .int .i64 j13, .int .i64 j14, .int .i64 j15] rfl rfl HTH.out (by kernel_rfl) (by simp [Value.oneCell']) ?_
  (try rw [show (#[.int .i64 j0, .int .i64 j1, .int .i64 j2, .int .i64 j3, .int .i64 j4, .int .i64 j5, .int .i64 j6, .int .i64 j7, .int .i64 j8, .int .i64 j9, .int .i64 j10, .int .i64 j11, .int .i64 j12, .int .i64 j13, .int .i64 j14, .int .i64 j15] : Array Value).toList = [.int .i64 j0, .int .i64 j1, .int .i64 j2, .int .i64 j3, .int .i64 j4, .int .i64 j5, .int .i64 j6, .int .i64 j7, .int .i64 j8, .int .i64 j9, .int .i64 j10, .int .i64 j11, .int .i64 j12, .int .i64 j13, .int .i64 j14, .int .i64 j15] from rfl])
  have hba : Below u21_.heap.size u21_ (u21_.alloc (.cells #[.int .i64 0, .int .i64 0, .int .i64 0, .int .i64 0, .int .i64 0, .int .i64 0, .int .i64 0, .int .i64 0, .int .i64 0, .int .i64 0, .int .i64 0, .int .i64 0, .int .i64 0, .int .i64 0, .int .i64 0, .int .i64 0] 49)) := bal (Below.refl _ _) _
  have hb : Below u21_.heap.size u21_ ((u21_.alloc (.cells #[.int .i64 0, .int .i64 0, .int .i64 0, .int .i64 0, .int .i64 0, .int .i64 0, .int .i64 0, .int .i64 0, .int .i64 0, .int .i64 0, .int .i64 0, .int .i64 0, .int .i64 0, .int .i64 0, .int .i64 0, .int .i64 0] 49)).setCells u21_.heap.size 0 [.int .i64 j0, .int .i64 j1, .int .i64 j2, .int .i64 j3, .int .i64 j4, .int .i64 j5, .int .i64 j6, .int .i64 j7, .int .i64 j8, .int .i64 j9, .int .i64 j10, .int .i64 j11, .int .i64 j12, .int .i64 j13, .int .i64 j14, .int .i64 j15]) := below_mids (Nat.le_refl _) _ _ hba
  have hnb : ((u21_.alloc (.cells #[.int .i64 0, .int .i64 0, .int .i64 0, .int .i64 0, .int .i64 0, .int .i64 0, .int .i64 0, .int .i64 0, .int .i64 0, .int .i64 0, .int .i64 0, .int .i64 0, .int .i64 0, .int .i64 0, .int .i64 0, .int .i64 0] 49)).setCells u21_.heap.size 0 [.int .i64 j0, .int .i64 j1, .int .i64 j2, .int .i64 j3, .int .i64 j4, .int .i64 j5, .int .i64 j6, .int .i64 j7, .int .i64 j8, .int .i64 j9, .int .i64 j10, .int .i64 j11, .int .i64 j12, .int .i64 j13, .int .i64 j14, .int .i64 j15]).heap[u21_.heap.size]? = some (.cells #[.int .i64 j0, .int .i64 j1, .int .i64 j2, .int .i64 j3, .int .i64 j4, .int .i64 j5, .int .i64 j6, .int .i64 j7, .int .i64 j8, .int .i64 j9, .int .i64 j10, .int .i64 j11, .int .i64 j12, .int .i64 j13, .int .i64 j14, .int .i64 j15] 49 (0, 0)) := block_whole [.int .i64 j0, .int .i64 j1, .int .i64 j2, .int .i64 j3, .int .i64 j4, .int .i64 j5, .int .i64 j6, .int .i64 j7, .int .i64 j8, .int .i64 j9, .int .i64 j10, .int .i64 j11, .int .i64 j12, .int .i64 j13, .int .i64 j14, .int .i64 j15] (heap_alloc_new u21_ (.cells #[.int .i64 0, .int .i64 0, .int .i64 0, .int .i64 0, .int .i64 0, .int .i64 0, .int .i64 0, .int .i64 0, .int .i64 0, .int .i64 0, .int .i64 0, .int .i64 0, .int .i64 0, .int .i64 0, .int .i64 0, .int .i64 0] 49)) rfl
  have hlb : u21_.heap.size < ((u21_.alloc (.cells #[.int .i64 0, .int .i64 0, .int .i64 0, .int .i64 0, .int .i64 0, .int .i64 0, .int .i64 0, .int .i64 0, .int .i64 0, .int .i64 0, .int .i64 0, .int .i64 0, .int .i64 0, .int .i64 0, .int .i64 0, .int .i64 0] 49)).setCells u21_.heap.size 0 [.int .i64 j0, .int .i64 j1, .int .i64 j2, .int .i64 j3, .int .i64 j4, .int .i64 j5, .int .i64 j6, .int .i64 j7, .int .i64 j8, .int .i64 j9, .int .i64 j10, .int .i64 j11, .int .i64 j12, .int .i64 j13, .int .i64 j14, .int .i64 j15]).heap.size := (Array.getElem?_eq_some_iff.1 hnb).1
  have HD22 := Lib.hid (HD21.out.trans (hb.mono lw21))
  have lw22 : w.heap.size ≤ ((u21_.alloc (.cells #[.int .i64 0, .int .i64 0, .int .i64 0, .int .i64 0, .int .i64 0, .int .i64 0, .int .i64 0, .int .i64 0, .int .i64 0, .int .i64 0, .int .i64 0, .int .i64 0, .int .i64 0, .int .i64 0, .int .i64 0, .int .i64 0] 49)).setCells u21_.heap.size 0 [.int .i64 j0, .int .i64 j1, .int .i64 j2, .int .i64 j3, .int .i64 j4, .int .i64 j5, .int .i64 j6, .int .i64 j7, .int .i64 j8, .int .i64 j9, .int .i64 j10, .int .i64 j11, .int .i64 j12, .int .i64 j13, .int .i64 j14, .int .i64 j15]).heap.size := Nat.le_trans lw21 hb.size
  have Hb2_22 := Lib.hid ((hb.block _ lb2_21).trans Hb2_21.out)
  have lb2_22 : w.heap.size < ((u21_.alloc (.cells #[.int .i64 0, .int .i64 0, .int .i64 0, .int .i64 0, .int .i64 0, .int .i64 0, .int .i64 0, .int .i64 0, .int .i64 0, .int .i64 0, .int .i64 0, .int .i64 0, .int .i64 0, .int .i64 0, .int .i64 0, .int .i64 0] 49)).setCells u21_.heap.size 0 [.int .i64 j0, .int .i64 j1, .int .i64 j2, .int .i64 j3, .int .i64 j4, .int .i64 j5, .int .i64 j6, .int .i64 j7, .int .i64 j8, .int .i64 j9, .int .i64 j10, .int .i64 j11, .int .i64 j12, .int .i64 j13, .int .i64 j14, .int .i64 j15]).heap.size := Nat.lt_of_lt_of_le lb2_21 hb.size
  have Hb3_22 := Lib.hid ((hb.block _ lb3_21).trans Hb3_21.out)
  have lb3_22 : w.heap.size + 1 < ((u21_.alloc (.cells #[.int .i64 0, .int .i64 0, .int .i64 0, .int .i64 0, .int .i64 0, .int .i64 0, .int .i64 0, .int .i64 0, .int .i64 0, .int .i64 0, .int .i64 0, .int .i64 0, .int .i64 0, .int .i64 0, .int .i64 0, .int .i64 0] 49)).setCells u21_.heap.size 0 [.int .i64 j0, .int .i64 j1, .int .i64 j2, .int .i64 j3, .int .i64 j4, .int .i64 j5, .int .i64 j6, .int .i64 j7, .int .i64 j8, .int .i64 j9, .int .i64 j10, .int .i64 j11, .int .i64 j12, .int .i64 j13, .int .i64 j14, .int .i64 j15]).heap.size := Nat.lt_of_lt_of_le lb3_21 hb.size
  have Hb5_22 := Lib.hid ((hb.block _ lb5_21).trans Hb5_21.out)
  have lb5_22 : BB2 < ((u21_.alloc (.cells #[.int .i64 0, .int .i64 0, .int .i64 0, .int .i64 0, .int .i64 0, .int .i64 0, .int .i64 0, .int .i64 0, .int .i64 0, .int .i64 0, .int .i64 0, .int .i64 0, .int .i64 0, .int .i64 0, .int .i64 0, .int .i64 0] 49)).setCells u21_.heap.size 0 [.int .i64 j0, .int .i64 j1, .int .i64 j2, .int .i64 j3, .int .i64 j4, .int .i64 j5, .int .i64 j6, .int .i64 j7, .int .i64 j8, .int .i64 j9, .int .i64 j10, .int .i64 j11, .int .i64 j12, .int .i64 j13, .int .i64 j14, .int .i64 j15]).heap.size := Nat.lt_of_lt_of_le lb5_21 hb.size
  have Hb7_22 := Lib.hid ((hb.block _ lb7_21).trans Hb7_21.out)
  have lb7_22 : BB4 < ((u21_.alloc (.cells #[.int .i64 0, .int .i64 0, .int .i64 0, .int .i64 0, .int .i64 0, .int .i64 0, .int .i64 0, .int .i64 0, .int .i64 0, .int .i64 0, .int .i64 0, .int .i64 0, .int .i64 0, .int .i64 0, .int .i64 0, .int .i64 0] 49)).setCells u21_.heap.size 0 [.int .i64 j0, .int .i64 j1, .int .i64 j2, .int .i64 j3, .int .i64 j4, .int .i64 j5, .int .i64 j6, .int .i64 j7, .int .i64 j8, .int .i64 j9, .int .i64 j10, .int .i64 j11, .int .i64 j12, .int .i64 j13, .int .i64 j14, .int .i64 j15]).heap.size := Nat.lt_of_lt_of_le lb7_21 hb.size
  have Hb9_22 := Lib.hid ((hb.block _ lb9_21).trans Hb9_21.out)
  have lb9_22 : BB5 < ((u21_.alloc (.cells #[.int .i64 0, .int .i64 0, .int .i64 0, .int .i64 0, .int .i64 0, .int .i64 0, .int .i64 0, .int .i64 0, .int .i64 0, .int .i64 0, .int .i64 0, .int .i64 0, .int .i64 0, .int .i64 0, .int .i64 0, .int .i64 0] 49)).setCells u21_.heap.size 0 [.int .i64 j0, .int .i64 j1, .int .i64 j2, .int .i64 j3, .int .i64 j4, .int .i64 j5, .int .i64 j6, .int .i64 j7, .int .i64 j8, .int .i64 j9, .int .i64 j10, .int .i64 j11, .int .i64 j12, .int .i64 j13, .int .i64 j14, .int .i64 j15]).heap.size := Nat.lt_of_lt_of_le lb9_21 hb.size
  have Hb10_22 := Lib.hid ((hb.block _ lb10_21).trans Hb10_21.out)
  have lb10_22 : BB7 < ((u21_.alloc (.cells #[.int .i64 0, .int .i64 0, .int .i64 0, .int .i64 0, .int .i64 0, .int .i64 0, .int .i64 0, .int .i64 0, .int .i64 0, .int .i64 0, .int .i64 0, .int .i64 0, .int .i64 0, .int .i64 0, .int .i64 0, .int .i64 0] 49)).setCells u21_.heap.size 0 [.int .i64 j0, .int .i64 j1, .int .i64 j2, .int .i64 j3, .int .i64 j4, .int .i64 j5, .int .i64 j6, .int .i64 j7, .int .i64 j8, .int .i64 j9, .int .i64 j10, .int .i64 j11, .int .i64 j12, .int .i64 j13, .int .i64 j14, .int .i64 j15]).heap.size := Nat.lt_of_lt_of_le lb10_21 hb.size
  have Hb13_22 := Lib.hid ((hb.block _ lb13_21).trans Hb13_21.out)
  have lb13_22 : BB13 < ((u21_.alloc (.cells #[.int .i64 0, .int .i64 0, .int .i64 0, .int .i64 0, .int .i64 0, .int .i64 0, .int .i64 0, .int .i64 0, .int .i64 0, .int .i64 0, .int .i64 0, .int .i64 0, .int .i64 0, .int .i64 0, .int .i64 0, .int .i64 0] 49)).setCells u21_.heap.size 0 [.int .i64 j0, .int .i64 j1, .int .i64 j2, .int .i64 j3, .int .i64 j4, .int .i64 j5, .int .i64 j6, .int .i64 j7, .int .i64 j8, .int .i64 j9, .int .i64 j10, .int .i64 j11, .int .i64 j12, .int .i64 j13, .int .i64 j14, .int .i64 j15]).heap.size := Nat.lt_of_lt_of_le lb13_21 hb.size
  have Hb14_22 := Lib.hid ((hb.block _ lb14_21).trans Hb14_21.out)
  have lb14_22 : BB15 < ((u21_.alloc (.cells #[.int .i64 0, .int .i64 0, .int .i64 0, .int .i64 0, .int .i64 0, .int .i64 0, .int .i64 0, .int .i64 0, .int .i64 0, .int .i64 0, .int .i64 0, .int .i64 0, .int .i64 0, .int .i64 0, .int .i64 0, .int .i64 0] 49)).setCells u21_.heap.size 0 [.int .i64 j0, .int .i64 j1, .int .i64 j2, .int .i64 j3, .int .i64 j4, .int .i64 j5, .int .i64 j6, .int .i64 j7, .int .i64 j8, .int .i64 j9, .int .i64 j10, .int .i64 j11, .int .i64 j12, .int .i64 j13, .int .i64 j14, .int .i64 j15]).heap.size := Nat.lt_of_lt_of_le lb14_21 hb.size
  have Hb15_22 := Lib.hid ((hb.block _ lb15_21).trans Hb15_21.out)
  have lb15_22 : BB17 < ((u21_.alloc (.cells #[.int .i64 0, .int .i64 0, .int .i64 0, .int .i64 0, .int .i64 0, .int .i64 0, .int .i64 0, .int .i64 0, .int .i64 0, .int .i64 0, .int .i64 0, .int .i64 0, .int .i64 0, .int .i64 0, .int .i64 0, .int .i64 0] 49)).setCells u21_.heap.size 0 [.int .i64 j0, .int .i64 j1, .int .i64 j2, .int .i64 j3, .int .i64 j4, .int .i64 j5, .int .i64 j6, .int .i64 j7, .int .i64 j8, .int .i64 j9, .int .i64 j10, .int .i64 j11, .int .i64 j12, .int .i64 j13, .int .i64 j14, .int .i64 j15]).heap.size := Nat.lt_of_lt_of_le lb15_21 hb.size
  have Hb17_22 := Lib.hid hnb
  have lb17_22 := hlb
  clear hb hba hnb hlb HTH HD21 lw21 Hb2_21 lb2_21 Hb3_21 lb3_21 Hb5_21 lb5_21 Hb7_21 lb7_21 Hb9_21 lb9_21 Hb10_21 lb10_21 Hb13_21 lb13_21 Hb14_21 lb14_21 Hb15_21 lb15_21
  generalize ((u21_.alloc (.cells #[.int .i64 0, .int .i64 0, .int .i64 0, .int .i64 0, .int .i64 0, .int .i64 0, .int .i64 0, .int .i64 0, .int .i64 0, .int .i64 0, .int .i64 0, .int .i64 0, .int .i64 0, .int .i64 0, .int .i64 0, .int .i64 0] 49)).setCells u21_.heap.size 0 [.int .i64 j0, .int .i64 j1, .int .i64 j2, .int .i64 j3, .int .i64 j4, .int .i64 j5, .int .i64 j6, .int .i64 j7, .int .i64 j8, .int .i64 j9, .int .i64 j10, .int .i64 j11, .int .i64 j12, .int .i64 j13, .int .i64 j14, .int .i64 j15]) = U22 at *
  generalize u21_.heap.size = BB22 at *
  refine wpList_step (fun K hK => ?_); go_simp; refine hK _ _ ?_; clear hK K
  refine wpList_nil ?_
  go_upto_region 26 with fail
  refine wp_region_lit ?_
  refine wpList_step (fun K hK => ?_); go_simp; refine hK _ _ ?_; clear hK K
  refine wpList_step (fun K hK => ?_); go_simp; refine hK _ _ ?_; clear hK K
  refine wpList_step (fun K hK => ?_); go_simp; refine hK _ _ ?_; clear hK K
  refine wpList_step (fun K hK => ?_)
  rw [if_pos (show Region.wanted _ _ = true from rfl)]
  refine wp_load_mid 49 (.tmp 14) rfl (BB15) 0 rfl [.int .i64 j0, .int .i64 j1, .int .i64 j2, .int .i64 j3, .int .i64 j4, .int .i64 j5, .int .i64 j6, .int .i64 j7, .int .i64 j8, .int .i64 j9, .int .i64 j10, .int .i64 j11, .int .i64 j12, .int .i64 j13, .int .i64 j14, .int .i64 j15] _ (range_row Hb14_22.out 0 [.int .i64 j0, .int .i64 j1, .int .i64 j2, .int .i64 j3, .int .i64 j4, .int .i64 j5, .int .i64 j6, .int .i64 j7, .int .i64 j8, .int .i64 j9, .int .i64 j10, .int .i64 j11, .int .i64 j12, .int .i64 j13, .int .i64 j14, .int .i64 j15] (fun j hj => by simp only [Nat.zero_add, List.getElem?_toArray])) Try.underlying49 rfl (by kernel_rfl) ?_
  refine hK _ _ ?_
  clear hK K
  refine wpList_step (fun K hK => ?_)
  rw [if_pos (show Region.wanted _ _ = true from rfl)]
  refine wp_load_mid 49 (.tmp 17) rfl (BB22) 0 rfl [.int .i64 j0, .int .i64 j1, .int .i64 j2, .int .i64 j3, .int .i64 j4, .int .i64 j5, .int .i64 j6, .int .i64 j7, .int .i64 j8, .int .i64 j9, .int .i64 j10, .int .i64 j11, .int .i64 j12, .int .i64 j13, .int .i64 j14, .int .i64 j15] _ (range_row Hb17_22.out 0 [.int .i64 j0, .int .i64 j1, .int .i64 j2, .int .i64 j3, .int .i64 j4, .int .i64 j5, .int .i64 j6, .int .i64 j7, .int .i64 j8, .int .i64 j9, .int .i64 j10, .int .i64 j11, .int .i64 j12, .int .i64 j13, .int .i64 j14, .int .i64 j15] (fun j hj => by simp only [Nat.zero_add, List.getElem?_toArray])) Try.underlying49 rfl (by kernel_rfl) ?_
  refine hK _ _ ?_
  clear hK K
  refine wpList_step (fun K hK => ?_)
  go_simp
  refine (lawMeet_same j0 j1 j2 j3 j4 j5 j6 j7 j8 j9 j10 j11 j12 j13 j14 j15 _ HOJ.out).mono ?_
  rintro e u23_ ⟨rfl, hb⟩
  have HD23 := Lib.hid (HD22.out.trans (hb.mono lw22))
  have lw23 : w.heap.size ≤ u23_.heap.size := Nat.le_trans lw22 hb.size
  have Hb2_23 := Lib.hid ((hb.block _ lb2_22).trans Hb2_22.out)
  have lb2_23 : w.heap.size < u23_.heap.size := Nat.lt_of_lt_of_le lb2_22 hb.size
  have Hb3_23 := Lib.hid ((hb.block _ lb3_22).trans Hb3_22.out)
  have lb3_23 : w.heap.size + 1 < u23_.heap.size := Nat.lt_of_lt_of_le lb3_22 hb.size
  have Hb5_23 := Lib.hid ((hb.block _ lb5_22).trans Hb5_22.out)
  have lb5_23 : BB2 < u23_.heap.size := Nat.lt_of_lt_of_le lb5_22 hb.size
  have Hb7_23 := Lib.hid ((hb.block _ lb7_22).trans Hb7_22.out)
  have lb7_23 : BB4 < u23_.heap.size := Nat.lt_of_lt_of_le lb7_22 hb.size
  have Hb9_23 := Lib.hid ((hb.block _ lb9_22).trans Hb9_22.out)
  have lb9_23 : BB5 < u23_.heap.size := Nat.lt_of_lt_of_le lb9_22 hb.size
  have Hb10_23 := Lib.hid ((hb.block _ lb10_22).trans Hb10_22.out)
  have lb10_23 : BB7 < u23_.heap.size := Nat.lt_of_lt_of_le lb10_22 hb.size
  have Hb13_23 := Lib.hid ((hb.block _ lb13_22).trans Hb13_22.out)
  have lb13_23 : BB13 < u23_.heap.size := Nat.lt_of_lt_of_le lb13_22 hb.size
  have Hb14_23 := Lib.hid ((hb.block _ lb14_22).trans Hb14_22.out)
  have lb14_23 : BB15 < u23_.heap.size := Nat.lt_of_lt_of_le lb14_22 hb.size
  have Hb15_23 := Lib.hid ((hb.block _ lb15_22).trans Hb15_22.out)
  have lb15_23 : BB17 < u23_.heap.size := Nat.lt_of_lt_of_le lb15_22 hb.size
  have Hb17_23 := Lib.hid ((hb.block _ lb17_22).trans Hb17_22.out)
  have lb17_23 : BB22 < u23_.heap.size := Nat.lt_of_lt_of_le lb17_22 hb.size
  clear hb HD22 lw22 Hb2_22 lb2_22 Hb3_22 lb3_22 Hb5_22 lb5_22 Hb7_22 lb7_22 Hb9_22 lb9_22 Hb10_22 lb10_22 Hb13_22 lb13_22 Hb14_22 lb14_22 Hb15_22 lb15_22 Hb17_22 lb17_22
  refine hK _ _ ?_
  clear hK K
  refine wpList_step (fun K hK => ?_); go_simp; refine hK _ _ ?_; clear hK K
  refine wpList_step (fun K hK => ?_); go_simp; refine hK _ _ ?_; clear hK K
  refine wpList_step (fun K hK => ?_)
  go_simp
  refine (eawake_any _).mono ?_
  rintro e u24_ ⟨rfl, hb⟩
  have HD24 := Lib.hid (HD23.out.trans (hb.mono lw23))
  have lw24 : w.heap.size ≤ u24_.heap.size := Nat.le_trans lw23 hb.size
  have Hb2_24 := Lib.hid ((hb.block _ lb2_23).trans Hb2_23.out)
  have lb2_24 : w.heap.size < u24_.heap.size := Nat.lt_of_lt_of_le lb2_23 hb.size
  have Hb3_24 := Lib.hid ((hb.block _ lb3_23).trans Hb3_23.out)
  have lb3_24 : w.heap.size + 1 < u24_.heap.size := Nat.lt_of_lt_of_le lb3_23 hb.size
  have Hb5_24 := Lib.hid ((hb.block _ lb5_23).trans Hb5_23.out)
  have lb5_24 : BB2 < u24_.heap.size := Nat.lt_of_lt_of_le lb5_23 hb.size
  have Hb7_24 := Lib.hid ((hb.block _ lb7_23).trans Hb7_23.out)
  have lb7_24 : BB4 < u24_.heap.size := Nat.lt_of_lt_of_le lb7_23 hb.size
  have Hb9_24 := Lib.hid ((hb.block _ lb9_23).trans Hb9_23.out)
  have lb9_24 : BB5 < u24_.heap.size := Nat.lt_of_lt_of_le lb9_23 hb.size
  have Hb10_24 := Lib.hid ((hb.block _ lb10_23).trans Hb10_23.out)
  have lb10_24 : BB7 < u24_.heap.size := Nat.lt_of_lt_of_le lb10_23 hb.size
  have Hb13_24 := Lib.hid ((hb.block _ lb13_23).trans Hb13_23.out)
  have lb13_24 : BB13 < u24_.heap.size := Nat.lt_of_lt_of_le lb13_23 hb.size
  have Hb14_24 := Lib.hid ((hb.block _ lb14_23).trans Hb14_23.out)
  have lb14_24 : BB15 < u24_.heap.size := Nat.lt_of_lt_of_le lb14_23 hb.size
  have Hb15_24 := Lib.hid ((hb.block _ lb15_23).trans Hb15_23.out)
  have lb15_24 : BB17 < u24_.heap.size := Nat.lt_of_lt_of_le lb15_23 hb.size
  have Hb17_24 := Lib.hid ((hb.block _ lb17_23).trans Hb17_23.out)
  have lb17_24 : BB22 < u24_.heap.size := Nat.lt_of_lt_of_le lb17_23 hb.size
  clear hb HD23 lw23 Hb2_23 lb2_23 Hb3_23 lb3_23 Hb5_23 lb5_23 Hb7_23 lb7_23 Hb9_23 lb9_23 Hb10_23 lb10_23 Hb13_23 lb13_23 Hb14_23 lb14_23 Hb15_23 lb15_23 Hb17_23 lb17_23
  refine hK _ _ ?_
  clear hK K
  refine wpList_step (fun K hK => ?_); go_simp; refine hK _ _ ?_; clear hK K
  refine wpList_step (fun K hK => ?_); go_simp; refine hK _ _ ?_; clear hK K
  refine wpList_nil ?_
  refine (‹∀ (a : Act) (w : World), Code.wp Try.prog Code.ret _ a w → _› _ _ ?_)
  apply wp_ret
  (try unfold Exit.then)
  (try dsimp only)
  (try simp only [act_all])
  refine bodyPost_ret (v := .bool true) (by simp [results, Try.results14, go_sem]) rfl ⟨rfl, HD24.out⟩
theorem EncloseMirrors_any (a0 b0 c0 d0 a1 b1 c1 d1 a2 b2 c2 d2 a3 b3 c3 d3 e0 f0 g0 h0 e1 f1 g1 h1 e2 f2 g2 h2 e3 f3 g3 h3 : Int) (w : World) :
    Calls Try.prog 14 #[.agg #[.int .i64 a0, .int .i64 b0, .int .i64 c0, .int .i64 d0, .int .i64 a1, .int .i64 b1, .int .i64 c1, .int .i64 d1, .int .i64 a2, .int .i64 b2, .int .i64 c2, .int .i64 d2, .int .i64 a3, .int .i64 b3, .int .i64 c3, .int .i64 d3], .agg #[.int .i64 e0, .int .i64 f0, .int .i64 g0, .int .i64 h0, .int .i64 e1, .int .i64 f1, .int .i64 g1, .int .i64 h1, .int .i64 e2, .int .i64 f2, .int .i64 g2, .int .i64 h2, .int .i64 e3, .int .i64 f3, .int .i64 g3, .int .i64 h3]] w fun e w' => e = .returned (.bool true) ∧ Below w.heap.size w w' := by
  cases hp : okP ⟨⟨a0, b0⟩, ⟨c0, d0⟩⟩ ⟨⟨a1, b1⟩, ⟨c1, d1⟩⟩ ⟨⟨a2, b2⟩, ⟨c2, d2⟩⟩ ⟨⟨a3, b3⟩, ⟨c3, d3⟩⟩ with
  | false => exact EncloseMirrors_no a0 b0 c0 d0 a1 b1 c1 d1 a2 b2 c2 d2 a3 b3 c3 d3 e0 f0 g0 h0 e1 f1 g1 h1 e2 f2 g2 h2 e3 f3 g3 h3 w hp
  | true => exact EncloseMirrors_ok a0 b0 c0 d0 a1 b1 c1 d1 a2 b2 c2 d2 a3 b3 c3 d3 e0 f0 g0 h0 e1 f1 g1 h1 e2 f2 g2 h2 e3 f3 g3 h3 w hp
end Go.Proofs.Ytgbnpnenejgnnaa
