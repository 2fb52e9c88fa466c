import Derived.Test.YtilclpldfoifkaaEt
namespace Encl
theorem inR_okS {s t : Sp} (h : inR s = .ok t) : okS t = true := by
  unfold inR at h
  split at h
  · next g => injection h with h; subst h; exact g
  · cases h
theorem addS_ok {x y t : Sp} (h : addS x y = .ok t) : okS t = true := inR_okS h
theorem subS_ok {x y t : Sp} (h : subS x y = .ok t) : okS t = true := inR_okS h
theorem mulS_ok {x y t : Sp} (h : mulS x y = .ok t) : okS t = true := by rw [mulS_eq] at h; exact inR_okS h
theorem divS_ok {x y t : Sp} (h0 : 0 < y.lo) (h1 : y.lo ≤ y.hi) (h : divS x y = .ok t) : okS t = true := by rw [divS_eq x y h0 h1] at h; exact inR_okS h
theorem sqS_ok {x t : Sp} (h : sqS x = .ok t) : okS t = true := by rw [sqS_eq] at h; exact inR_okS h
theorem neg_ok {a b : Int} (h : okS ⟨a, b⟩ = true) : okS ⟨-b, -a⟩ = true := by
  rw [okS_iff] at *; simp only at *; omega
theorem bind_okI {α β : Type} {o : Out α} {f : α → Out β} {r : β} (h : o.bind f = .ok r) : ∃ a, o = .ok a ∧ f a = .ok r := by
  cases o with
  | ok a => exact ⟨a, rfl, h⟩
  | bad k => cases h
theorem addR_ok {x y t : Rc} (h : addR x y = .ok t) : okR t = true := by
  obtain ⟨a, ha, h⟩ := bind_okI h
  obtain ⟨b, hb, h⟩ := bind_okI h
  injection h with h; subst h
  rw [okR_iff]; exact ⟨addS_ok ha, addS_ok hb⟩
theorem subR_ok {x y t : Rc} (h : subR x y = .ok t) : okR t = true := by
  obtain ⟨a, ha, h⟩ := bind_okI h
  obtain ⟨b, hb, h⟩ := bind_okI h
  injection h with h; subst h
  rw [okR_iff]; exact ⟨subS_ok ha, subS_ok hb⟩
theorem mulR_ok {x y t : Rc} (h : mulR x y = .ok t) : okR t = true := by
  obtain ⟨a, _, h⟩ := bind_okI h
  obtain ⟨b, _, h⟩ := bind_okI h
  obtain ⟨c, hc, h⟩ := bind_okI h
  obtain ⟨d, _, h⟩ := bind_okI h
  obtain ⟨e, _, h⟩ := bind_okI h
  obtain ⟨f, hf, h⟩ := bind_okI h
  injection h with h; subst h
  rw [okR_iff]; exact ⟨subS_ok hc, addS_ok hf⟩
theorem powR_ok {x : Rc} {t : Sp} (h : powR x = .ok t) : okS t = true := by
  obtain ⟨a, _, h⟩ := bind_okI h
  obtain ⟨b, _, h⟩ := bind_okI h
  exact addS_ok h
theorem divR_ok {x y t : Rc} (h : divR x y = .ok t) : okR t = true := by
  obtain ⟨p, hp, h⟩ := bind_okI h
  have g := powR_ok hp
  rw [okS_iff] at g
  split at h
  · cases h
  · next hl =>
    obtain ⟨z, _, h⟩ := bind_okI h
    obtain ⟨a, ha, h⟩ := bind_okI h
    obtain ⟨b, hb, h⟩ := bind_okI h
    injection h with h; subst h
    rw [okR_iff]; exact ⟨divS_ok (by omega) g.2.1 ha, divS_ok (by omega) g.2.1 hb⟩
end Encl
