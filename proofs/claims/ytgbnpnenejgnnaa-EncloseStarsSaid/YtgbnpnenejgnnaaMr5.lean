import Derived.Test.YtgbnpnenejgnnaaRs
import Derived.Test.YtgbnpnenejgnnaaR5d
import Derived.Test.YtgbnpnenejgnnaaRa
import Derived.Test.YtgbnpnenejgnnaaSt5
import Derived.Test.YtgbnpnenejgnnaaPr5
namespace Go.Proofs.Ytgbnpnenejgnnaa
open Go.RowKit Encl
set_option maxRecDepth 100000 in
set_option maxHeartbeats 2000000 in
theorem rWhole_any (n : Int) (w : World) (h0 : -1024 ≤ n) (h1 : n ≤ 1024) :
    Calls Try.prog 87 #[.int .i64 n] w fun e w' => e = retR ⟨⟨n * 1073741824, n * 1073741824⟩, ⟨0, 0⟩⟩ ∧ Below w.heap.size w w' := by
  have w1 : wrap64 (n * 1073741824) = n * 1073741824 := by simp only [wrap64]; omega
  obtain ⟨m, hm⟩ : ∃ m, n * 1073741824 = m := ⟨_, rfl⟩
  rw [hm] at w1 ⊢
  go_enter Try.func87, Try.ntmps87
  go_wp2_with fail
  refine bodyPost_ret (v := .agg #[.int .i64 m, .int .i64 m, .int .i64 0, .int .i64 0]) (by simp [results, Try.results87, go_sem, *]) rfl ⟨rfl, by go_grown⟩
end Go.Proofs.Ytgbnpnenejgnnaa

namespace Encl
/-- A step of the document's own way: behind an error nothing changes; else it is the term. -/
def Seg {α : Type} (e e' : Int) (o : Out α) (z : α) : Prop := (e = 0 → (e' = 0 ∧ o = .ok z) ∨ (¬ e' = 0 ∧ o = .bad e')) ∧ (¬ e = 0 → e' = e)
theorem Seg.bind {α β : Type} {e e1 e2 : Int} {o : Out α} {z1 : α} {f : α → Out β} {z2 : β} (h : Seg e e1 o z1) (k : Seg e1 e2 (f z1) z2) : Seg e e2 (o.bind f) z2 := by
  refine ⟨fun he => ?_, fun he => ?_⟩
  · rcases h.1 he with ⟨h1, h2⟩ | ⟨h1, h2⟩
    · rw [h2]; exact k.1 h1
    · right
      have h3 := k.2 h1
      rw [h2, h3]
      exact ⟨h1, rfl⟩
  · have h1 := h.2 he
    have h2 := k.2 (by rw [h1]; exact he)
    rw [h2, h1]
theorem Seg.ret {α : Type} {e : Int} (z : α) : Seg e e (.ok z) z := ⟨fun h => .inl ⟨h, rfl⟩, fun _ => rfl⟩
theorem Seg.fin {α : Type} {e' : Int} {o : Out α} {z : α} (h : Seg 0 e' o z) : o = if e' = 0 then .ok z else .bad e' := by
  rcases h.1 rfl with ⟨h1, h2⟩ | ⟨h1, h2⟩
  · rw [if_pos h1, h2]
  · rw [if_neg h1, h2]
open Go.Proofs.Ytgbnpnenejgnnaa in
theorem seg_of {W : Int → Rc → Rc → Rc × Int} {R : Rc → Rc → Out Rc} (hf : ∀ x y, Go.Proofs.Ytgbnpnenejgnnaa.fin (W 0 x y).1 (W 0 x y).2 = R x y) (he : ∀ e x y, ¬ e = 0 → (W e x y).2 = e) {e e' : Int} {x y z : Rc} (h : W e x y = (z, e')) : Seg e e' (R x y) z := by
  refine ⟨fun h0 => ?_, fun h0 => ?_⟩
  · subst h0
    have f := hf x y
    rw [h] at f
    unfold Go.Proofs.Ytgbnpnenejgnnaa.fin at f
    by_cases h1 : e' = 0
    · rw [if_pos h1] at f; exact .inl ⟨h1, f.symm⟩
    · rw [if_neg h1] at f; exact .inr ⟨h1, f.symm⟩
  · have := he e x y h0
    rw [h] at this
    exact this
theorem addW_err {e : Int} (h : ¬ e = 0) (x y : Rc) : (addW e x y).2 = e := by unfold addW; simp only [rn_err h]
theorem subW_err {e : Int} (h : ¬ e = 0) (x y : Rc) : (subW e x y).2 = e := by unfold subW; simp only [rn_err h]
theorem divW_err {e : Int} (h : ¬ e = 0) (x y : Rc) : (divW e x y).2 = e := by
  have h1 : powW e y = (S0, e) := by unfold powW; simp only [rn_err h]
  have h2 : zerW e S0 = e := if_neg h
  unfold divW
  simp only [h1, h2, mulW_err h, rn_err h]
theorem seg_mul {e e' : Int} {x y z : Rc} (h : mulW e x y = (z, e')) : Seg e e' (mulR x y) z := seg_of Go.Proofs.Ytgbnpnenejgnnaa.fin_mul (fun _ x y h => mulW_err h x y) h
theorem seg_div {e e' : Int} {x y z : Rc} (h : divW e x y = (z, e')) : Seg e e' (divR x y) z := seg_of Go.Proofs.Ytgbnpnenejgnnaa.fin_div (fun _ x y h => divW_err h x y) h
theorem seg_add {e e' : Int} {x y z : Rc} (h : addW e x y = (z, e')) : Seg e e' (addR x y) z := seg_of Go.Proofs.Ytgbnpnenejgnnaa.fin_add (fun _ x y h => addW_err h x y) h
theorem seg_sub {e e' : Int} {x y z : Rc} (h : subW e x y = (z, e')) : Seg e e' (subR x y) z := seg_of Go.Proofs.Ytgbnpnenejgnnaa.fin_sub (fun _ x y h => subW_err h x y) h
theorem addW_okR {e e' : Int} {x y z : Rc} (h : addW e x y = (z, e')) : okS z.re = true ∧ okS z.im = true := by
  unfold addW at h
  obtain ⟨h1, h2⟩ := Prod.mk.inj h
  rw [← h1]
  exact ⟨rn_okS (e' := _) rfl (fun _ h => addS_ok h), rn_okS (e' := _) rfl (fun _ h => addS_ok h)⟩
theorem subW_okR' {e e' : Int} {x y z : Rc} (h : subW e x y = (z, e')) : okS z.re = true ∧ okS z.im = true := by
  unfold subW at h
  obtain ⟨h1, h2⟩ := Prod.mk.inj h
  rw [← h1]
  exact ⟨rn_okS (e' := _) rfl (fun _ h => subS_ok h), rn_okS (e' := _) rfl (fun _ h => subS_ok h)⟩
theorem rn_okS_zero {e e' : Int} {o : Out Sp} {s : Sp} (h : rn e o = (s, e')) (ho : e = 0 → ∀ t, o = .ok t → okS t = true) : okS s = true := by
  by_cases he : e = 0
  · exact rn_okS h (ho he)
  · rw [rn_err he] at h
    rw [← (Prod.mk.inj h).1]
    decide
theorem divW_okR {e e' : Int} {x y z : Rc} (h : divW e x y = (z, e')) : okS z.re = true ∧ okS z.im = true := by
  unfold divW at h
  simp only at h
  obtain ⟨h1, h2⟩ := Prod.mk.inj h
  rw [← h1]
  have hp : okS (powW e y).1 = true := powW_okS (e' := (powW e y).2) rfl
  have hl : (mulW (zerW (powW e y).2 (powW e y).1) x (cjR y)).2 = 0 → 0 < (powW e y).1.lo := fun h0 => by
    have hz : zerW (powW e y).2 (powW e y).1 = 0 := by
      apply Classical.byContradiction
      intro hn
      rw [mulW_err hn] at h0
      exact hn h0
    unfold zerW at hz
    split at hz
    · split at hz
      · omega
      · omega
    · contradiction
  have hh := (okS_iff _).1 hp
  exact ⟨rn_okS_zero (e' := _) rfl (fun h0 t ht => divS_ok (hl h0) hh.2.1 ht), rn_okS_zero (e' := _) rfl (fun h0 t ht => divS_ok (hl (Classical.byContradiction fun hn => by rw [rn_err hn] at h0; exact hn h0)) hh.2.1 ht)⟩
/-- The whole of Star, step by step. -/
theorem star_seg {p q : Po} {m1 d m2 m3 b s0 m4 s1 m5 s2 m6 m7 c s3 : Rc} {e1 e2 e3 e4 e5 e6 e7 e8 e9 e10 e11 e12 e13 e14 : Int}
    (h1 : mulW 0 p.d q.a = (m1, e1)) (h2 : subW e1 ⟨⟨1073741824, 1073741824⟩, ⟨0, 0⟩⟩ m1 = (d, e2)) (h3 : mulW e2 p.b q.a = (m2, e3)) (h4 : mulW e3 m2 p.c = (m3, e4)) (h5 : divW e4 m3 d = (b, e5)) (h6 : addW e5 p.a b = (s0, e6))
    (h7 : mulW e6 p.b q.b = (m4, e7)) (h8 : divW e7 m4 d = (s1, e8)) (h9 : mulW e8 q.c p.c = (m5, e9)) (h10 : divW e9 m5 d = (s2, e10)) (h11 : mulW e10 q.c p.d = (m6, e11)) (h12 : mulW e11 m6 q.b = (m7, e12)) (h13 : divW e12 m7 d = (c, e13)) (h14 : addW e13 q.d c = (s3, e14)) :
    starR p q = if e14 = 0 then .ok ⟨s0, s1, s2, s3⟩ else .bad e14 := by
  refine Seg.fin ?_
  have k1 : Seg 0 e2 (starD p q) d := Seg.bind (seg_mul h1) (seg_sub h2)
  have k2 : Seg e2 e6 (starT p.a p.b q.a p.c d) s0 := Seg.bind (seg_mul h3) (Seg.bind (seg_mul h4) (Seg.bind (seg_div h5) (seg_add h6)))
  have k3 : Seg e6 e8 (starH p.b q.b d) s1 := Seg.bind (seg_mul h7) (seg_div h8)
  have k4 : Seg e8 e10 (starH q.c p.c d) s2 := Seg.bind (seg_mul h9) (seg_div h10)
  have k5 : Seg e10 e14 (starT q.d q.c p.d q.b d) s3 := Seg.bind (seg_mul h11) (Seg.bind (seg_mul h12) (Seg.bind (seg_div h13) (seg_add h14)))
  exact Seg.bind k1 (Seg.bind k2 (Seg.bind k3 (Seg.bind k4 (Seg.bind k5 (Seg.ret _)))))
end Encl
