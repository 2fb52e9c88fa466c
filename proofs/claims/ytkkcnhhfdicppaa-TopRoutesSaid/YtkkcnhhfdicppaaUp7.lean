import Derived.Test.YtkkcnhhfdicppaaMb7
import Derived.ChangeKeysEq
namespace Go.Proofs.Ytkkcnhhfdicppaa
open Go.RowKit Lay
theorem ra_q (Q : Nat) (s : String) (w : World) : (receiverAt 119 (.val (.pointer (some ⟨Q, 0, none⟩))) false (some s)).run Try.prog w = (loadVar 121 ⟨Q, 0, none⟩).run Try.prog w := by kernel_rfl
/-- A method of the queue's value, called on a pointer to it. -/
theorem m_of {nm : String} {K : Nat} (Q : Nat) (v : Value) (w : World) (hf : ((Try.prog.info? 119).bind fun i => (i.methods.find? (fun x => x.name == nm)).map fun m => (m.func, m.path.toList)) = some (some (K, false), [])) (h : w.cell? ⟨Q, 0, none⟩ = some v) :
    (method 258 119 (.pointer (some ⟨Q, 0, none⟩)) nm).run Try.prog w = .ok (K, v) w := by
  cases hi : Try.prog.info? 119 with
  | none => rw [hi] at hf; cases hf
  | some i =>
    rw [hi] at hf
    simp only [Option.bind_some] at hf
    cases hm : i.methods.find? (fun x => x.name == nm) with
    | none => rw [hm] at hf; cases hf
    | some m =>
      rw [hm] at hf
      simp only [Option.map_some, Option.some.injEq, Prod.mk.injEq] at hf
      obtain ⟨h1, h2⟩ := hf
      have h3 : m.path.isEmpty = true := by
        have : m.path = #[] := by apply Array.ext'; simpa using h2
        rw [this]; rfl
      have hl : (loadVar 121 ⟨Q, 0, none⟩).run Try.prog w = .ok v w := by
        simp [loadVar, go_sem, h]
      unfold method
      simp only [Sem.run_bind, run_typeInfo w hi, Result.andThen_ok, hm, h1, h2, h3, if_true, follow, Sem.run_pure, ra_q, hl]
theorem ml_len {Q : Nat} {v : Value} {w : World} (h : w.cell? ⟨Q, 0, none⟩ = some v) : (method 258 119 (.pointer (some ⟨Q, 0, none⟩)) "Len").run Try.prog w = .ok (78, v) w := m_of Q v w (by kernel_rfl) h
theorem ml_less {Q : Nat} {v : Value} {w : World} (h : w.cell? ⟨Q, 0, none⟩ = some v) : (method 258 119 (.pointer (some ⟨Q, 0, none⟩)) "Less").run Try.prog w = .ok (108, v) w := m_of Q v w (by kernel_rfl) h
theorem ml_swap {Q : Nat} {v : Value} {w : World} (h : w.cell? ⟨Q, 0, none⟩ = some v) : (method 258 119 (.pointer (some ⟨Q, 0, none⟩)) "Swap").run Try.prog w = .ok (111, v) w := m_of Q v w (by kernel_rfl) h
/-- The queue's variable holds the slice. -/
abbrev QV (w : World) (Q g n cap : Nat) : Prop := w.heap[Q]? = some (.cells #[.slice (some ⟨g, 0, none⟩) n cap] 121 (0, 0))
theorem QV.c {w : World} {Q g n cap : Nat} (h : QV w Q g n cap) : w.cell? ⟨Q, 0, none⟩ = some (.slice (some ⟨g, 0, none⟩) n cap) := (cell_of_row _ _ _ _ _ (0, 0) h).trans rfl
theorem QV.l {w : World} {Q g n cap : Nat} (h : QV w Q g n cap) : Q < w.heap.size := (Array.getElem?_eq_some_iff.1 h).1
/-- The same visits. -/
def Same7 (n : Nat) (f' f : Nat → V) : Prop := ∀ x, (∃ k, k < n ∧ f' k = x) ↔ ∃ k, k < n ∧ f k = x
theorem Same7.swp {n : Nat} {f' f : Nat → V} (h : Same7 n f' f) {i j : Nat} (hi : i < n) (hj : j < n) : Same7 n (Lay.swp f' i j) f := fun x => (swp_mem f' hi hj x).trans (h x)

set_option maxRecDepth 100000 in
set_option maxHeartbeats 4000000 in
theorem up_any (S : Nat → Prop) (Q n j : Nat) (f : Nat → V) (w : World) (hq : QAt w S Q n f) (hj : j < n) (hn : n ≤ 1000000) (hup : HpUp V.c f n j) :
    Calls Try.prog 91 #[.iface 119 (.pointer (some ⟨Q, 0, none⟩)), .int .i64 j] w fun e w' => e = .returned (.tuple #[]) ∧ Oth (fun k => k = Q ∨ S k) w w' ∧ ∃ f', QAt w' S Q n f' ∧ Hp V.c f' n ∧ Same7 n f' f := by
  have H0 := Lib.hid hq
  have HU0 := Lib.hid hup
  clear hq hup
  go_enter Try.func91, Try.ntmps91
  go_wp2_with fail
  go_loopw [1] (fun jv wr => ∃ (j' : Nat) (f' : Nat → V), jv = .int .i64 j' ∧ j' < n ∧ Hid (HpUp V.c f' n j') ∧ Hid (QAt wr S Q n f') ∧ Hid (Oth (fun k => k = Q ∨ S k) w wr) ∧ Hid (Same7 n f' f)) (fun jv _ => (intOf jv).toNat)
  case atStart => exact ⟨j, f, rfl, hj, HU0, H0, Lib.hid (Oth.refl _ _), Lib.hid (fun _ => Iff.rfl)⟩
  case round =>
    obtain ⟨j', f', rfl, hj', HU, HQ, HO, HM⟩ := hrel
    clear H0 HU0
    by_cases h0 : j' = 0
    · subst h0
      have hne : ((((0 : Nat) : Int) - 1).tdiv 2 == ((0 : Nat) : Int)) = true := by decide
      have hx : (0 : Nat) < 1 := by decide
      go_wp2_with fail
      go_end0
      exact ⟨rfl, HO.out, f', HQ.out, up_stop0 HU.out, HM.out⟩
    · obtain ⟨i, hi⟩ : ∃ i, (j' - 1) / 2 = i := ⟨_, rfl⟩
      have hic : ((j' : Int) - 1) / 2 = (i : Nat) := by omega
      have hne : ((i : Int) == (j' : Int)) = false := beq_eq_false_iff_ne.2 (by omega)
      have hne2 : ((((j' : Int) - 1) / 2) == (j' : Int)) = false := beq_eq_false_iff_ne.2 (by omega)
      have hin : i < n := by omega
      obtain ⟨g, cap, hV, hSg, hgQ, hA⟩ := HQ.out
      have hl := ml_less (QV.c hV)
      have HV := Lib.hid hV
      have HA := Lib.hid hA
      have HI := Lib.hid hi
      clear hV hA hi HQ
      go_wp2_with fail
      rw [hic]
      by_cases hc : (f' j').c < (f' i).c
      · refine (qLess_any g n cap j' i f' _ HA.out hn hj' hin).mono ?_
        rw [decide_eq_true hc]
        rintro e w1 ⟨rfl, ho⟩
        have HV1 : Hid (QV w1 Q g n cap) := Lib.hid ((ho.block _ (QV.l HV.out) (fun e => e)).trans HV.out)
        have HA1 : Hid (QArr w1 g n cap f') := Lib.hid (HA.out.keep (ho.block _ HA.out.lt (fun e => e)))
        have HO1 : Hid (Oth (fun k => k = Q ∨ S k) w w1) := Lib.hid (HO.out.trans (ho.mono (fun _ _ h => h.elim)))
        have hs := ml_swap (QV.c HV1.out)
        clear ho hl HA HV HO
        go_wp2_with fail
        refine (qSwap_any g n cap i j' f' _ HA1.out hn hin hj').mono ?_
        rintro e w2 ⟨rfl, ho, hA2⟩
        have HO2 : Hid (Oth (fun k => k = Q ∨ S k) w w2) := Lib.hid (HO1.out.trans (ho.mono (fun _ _ h => Or.inr (by rw [h]; exact hSg))))
        have HQ2 : Hid (QAt w2 S Q n (swp f' i j')) := Lib.hid ⟨g, cap, (ho.block _ (QV.l HV1.out) (fun e => hgQ e.symm)).trans HV1.out, hSg, hgQ, hA2⟩
        have HU2 : Hid (HpUp V.c (swp f' i j') n i) := Lib.hid (by have h := up_step HU.out (by omega) hj' (by rw [HI.out]; exact hc); rw [HI.out] at h; exact h)
        have HM2 := Lib.hid (HM.out.swp hin hj')
        clear ho hA2 hs HV1 HA1 HO1
        go_wp2_with fail
        go_roundw
        case rel => exact ⟨i, swp f' i j', rfl, hin, HU2, HQ2, HO2, HM2⟩
        case measure => simp [intOf]; omega
      · refine (qLess_any g n cap j' i f' _ HA.out hn hj' hin).mono ?_
        rw [decide_eq_false hc]
        rintro e w1 ⟨rfl, ho⟩
        have HQ1 : Hid (QAt w1 S Q n f') := Lib.hid ⟨g, cap, (ho.block _ (QV.l HV.out) (fun e => e)).trans HV.out, hSg, hgQ, HA.out.keep (ho.block _ HA.out.lt (fun e => e))⟩
        have HO1 : Hid (Oth (fun k => k = Q ∨ S k) w w1) := Lib.hid (HO.out.trans (ho.mono (fun _ _ h => h.elim)))
        clear ho hl HA HV HO
        go_wp2_with fail
        go_end0
        exact ⟨rfl, HO1.out, f', HQ1.out, up_stop (j := j') HU.out (by rw [HI.out]; omega), HM.out⟩
set_option maxRecDepth 100000 in
set_option maxHeartbeats 8000000 in
theorem down_any (S : Nat → Prop) (Q len m i0 : Nat) (f : Nat → V) (w : World) (hq : QAt w S Q len f) (hm : m ≤ len) (hi0 : i0 ≤ m) (hn : len ≤ 1000000) (hdn : HpDn V.c f m i0) :
    Calls Try.prog 89 #[.iface 119 (.pointer (some ⟨Q, 0, none⟩)), .int .i64 i0, .int .i64 m] w fun e w' => (∃ b, e = .returned (.bool b)) ∧ Oth (fun k => k = Q ∨ S k) w w' ∧ ∃ f', QAt w' S Q len f' ∧ Hp V.c f' m ∧ Same7 m f' f ∧ ∀ k, m ≤ k → f' k = f k := by
  have H0 := Lib.hid hq
  have HU0 := Lib.hid hdn
  clear hq hdn
  go_enter Try.func89, Try.ntmps89
  go_wp2_with fail
  go_loopw [7] (fun iv wr => ∃ (i : Nat) (f' : Nat → V), iv = .int .i64 i ∧ i ≤ m ∧ Hid (HpDn V.c f' m i) ∧ Hid (QAt wr S Q len f') ∧ Hid (Oth (fun k => k = Q ∨ S k) w wr) ∧ Hid (Same7 m f' f) ∧ Hid (∀ k, m ≤ k → f' k = f k)) (fun iv _ => m - (intOf iv).toNat)
  case atStart => exact ⟨i0, f, rfl, hi0, HU0, H0, Lib.hid (Oth.refl _ _), Lib.hid (fun _ => Iff.rfl), Lib.hid (fun _ _ => rfl)⟩
  case round =>
    obtain ⟨i, f', rfl, him, HU, HQ, HO, HM, HK⟩ := hrel
    clear H0 HU0
    by_cases h1 : 2 * i + 1 < m
    case neg =>
      go_wp2_with fail
      refine bodyPost_ret (v := .bool (decide (i0 < i))) (by simp [results, Try.results89, go_sem]) rfl ⟨by first | exact ⟨_, rfl⟩ | (cases (decide (i0 < i)) <;> simp), HO.out, f', HQ.out, dn_stop0 HU.out h1, HM.out, HK.out⟩
    obtain ⟨j1, hj1⟩ : ∃ j1, j1 = 2 * i + 1 := ⟨_, rfl⟩
    have HC1 : Hid (2 * (i : Int) + 1 = (j1 : Nat)) := Lib.hid (by omega)
    have HJ1 := Lib.hid hj1
    have h1' : ¬ (m : Int) ≤ 2 * (i : Int) + 1 := by omega
    have hin : i < len := by omega
    have hj1n : j1 < len := by omega
    clear hj1
    obtain ⟨g, cap, hV, hSg, hgQ, hA⟩ := HQ.out
    have hl := ml_less (QV.c hV)
    have HV := Lib.hid hV
    have HA := Lib.hid hA
    clear hV hA HQ
    by_cases h2 : 2 * i + 2 < m
    case neg =>
      have h2' : ¬ 2 * (i : Int) + 1 + 1 < (m : Int) := by omega
      have HL : Hid (les V.c f' m i = j1) := Lib.hid (by unfold les; rw [if_neg (fun h => h2 h.1)]; exact HJ1.out.symm)
      go_wp2_with fail
      rw [HC1.out]
      refine (qLess_any g len cap j1 i f' _ HA.out hn hj1n hin).mono ?_
      by_cases hc : (f' j1).c < (f' i).c
      case neg =>
        rw [decide_eq_false hc]
        rintro e w1 ⟨rfl, ho⟩
        have HQ1 : Hid (QAt w1 S Q len f') := Lib.hid ⟨g, cap, (ho.block _ (QV.l HV.out) (fun e => e)).trans HV.out, hSg, hgQ, HA.out.keep (ho.block _ HA.out.lt (fun e => e))⟩
        have HO1 : Hid (Oth (fun k => k = Q ∨ S k) w w1) := Lib.hid (HO.out.trans (ho.mono (fun _ _ h => h.elim)))
        clear ho hl HV HA HO
        go_wp2_with fail
        refine bodyPost_ret (v := .bool (decide (i0 < i))) (by simp [results, Try.results89, go_sem]) rfl ⟨by first | exact ⟨_, rfl⟩ | (cases (decide (i0 < i)) <;> simp), HO1.out, f', HQ1.out, dn_stop HU.out (by rw [HL.out]; omega), HM.out, HK.out⟩
      rw [decide_eq_true hc]
      rintro e w1 ⟨rfl, ho⟩
      have HV1 : Hid (QV w1 Q g len cap) := Lib.hid ((ho.block _ (QV.l HV.out) (fun e => e)).trans HV.out)
      have HA1 : Hid (QArr w1 g len cap f') := Lib.hid (HA.out.keep (ho.block _ HA.out.lt (fun e => e)))
      have HO1 : Hid (Oth (fun k => k = Q ∨ S k) w w1) := Lib.hid (HO.out.trans (ho.mono (fun _ _ h => h.elim)))
      have hs := ml_swap (QV.c HV1.out)
      clear ho hl HV HA HO
      go_wp2_with fail
      refine (qSwap_any g len cap i j1 f' _ HA1.out hn hin hj1n).mono ?_
      rintro e w2 ⟨rfl, ho, hA2⟩
      have HO2 : Hid (Oth (fun k => k = Q ∨ S k) w w2) := Lib.hid (HO1.out.trans (ho.mono (fun _ _ h => Or.inr (by rw [h]; exact hSg))))
      have HQ2 : Hid (QAt w2 S Q len (swp f' i j1)) := Lib.hid ⟨g, cap, (ho.block _ (QV.l HV1.out) (fun e => hgQ e.symm)).trans HV1.out, hSg, hgQ, hA2⟩
      have HU2 : Hid (HpDn V.c (swp f' i j1) m j1) := Lib.hid (by have h := dn_step HU.out h1 (by rw [HL.out]; exact hc); rw [HL.out] at h; exact h)
      have hjm : j1 < m := by rw [← HL.out]; exact les_lt _ _ h1
      have hji : i < j1 := by rw [← HL.out]; exact les_pos _ _ _ _
      have HM2 := Lib.hid (HM.out.swp (show i < m by omega) hjm)
      have HK2 : Hid (∀ k, m ≤ k → swp f' i j1 k = f k) := Lib.hid (fun k hk => by rw [swp_o f' (by omega) (by omega)]; exact HK.out k hk)
      clear ho hA2 hs HV1 HA1 HO1
      go_wp2_with fail
      go_roundw
      case rel => exact ⟨j1, swp f' i j1, rfl, Nat.le_of_lt hjm, HU2, HQ2, HO2, HM2, HK2⟩
      case measure => simp [intOf]; omega
    have h2' : 2 * (i : Int) + 1 + 1 < (m : Int) := by omega
    obtain ⟨j2, hj2⟩ : ∃ j2, j2 = 2 * i + 2 := ⟨_, rfl⟩
    have HC2 : Hid ((j1 : Int) + 1 = (j2 : Nat)) := Lib.hid (by have := HJ1.out; omega)
    have hj2n : j2 < len := by omega
    have HJ2 := Lib.hid hj2
    clear hj2
    go_wp2_with fail
    rw [HC1.out, HC2.out]
    refine (qLess_any g len cap j2 j1 f' _ HA.out hn hj2n hj1n).mono ?_
    by_cases hcc : (f' j2).c < (f' j1).c
    case neg =>
      have HL : Hid (les V.c f' m i = j1) := Lib.hid (by unfold les; rw [if_neg (fun h => hcc (by have := h.2; rw [← HJ2.out, ← HJ1.out] at this; exact this))]; exact HJ1.out.symm)
      rw [decide_eq_false hcc]
      rintro e w0 ⟨rfl, ho⟩
      have HV0 : Hid (QV w0 Q g len cap) := Lib.hid ((ho.block _ (QV.l HV.out) (fun e => e)).trans HV.out)
      have HA0 : Hid (QArr w0 g len cap f') := Lib.hid (HA.out.keep (ho.block _ HA.out.lt (fun e => e)))
      have HO0 : Hid (Oth (fun k => k = Q ∨ S k) w w0) := Lib.hid (HO.out.trans (ho.mono (fun _ _ h => h.elim)))
      clear ho hl HV HA HO
      have hl := ml_less (QV.c HV0.out)
      go_wp2_with fail
      refine (qLess_any g len cap j1 i f' _ HA0.out hn hj1n hin).mono ?_
      by_cases hc : (f' j1).c < (f' i).c
      case neg =>
        rw [decide_eq_false hc]
        rintro e w1 ⟨rfl, ho⟩
        have HQ1 : Hid (QAt w1 S Q len f') := Lib.hid ⟨g, cap, (ho.block _ (QV.l HV0.out) (fun e => e)).trans HV0.out, hSg, hgQ, HA0.out.keep (ho.block _ HA0.out.lt (fun e => e))⟩
        have HO1 : Hid (Oth (fun k => k = Q ∨ S k) w w1) := Lib.hid (HO0.out.trans (ho.mono (fun _ _ h => h.elim)))
        clear ho hl HV0 HA0 HO0
        go_wp2_with fail
        refine bodyPost_ret (v := .bool (decide (i0 < i))) (by simp [results, Try.results89, go_sem]) rfl ⟨by first | exact ⟨_, rfl⟩ | (cases (decide (i0 < i)) <;> simp), HO1.out, f', HQ1.out, dn_stop HU.out (by rw [HL.out]; omega), HM.out, HK.out⟩
      rw [decide_eq_true hc]
      rintro e w1 ⟨rfl, ho⟩
      have HV1 : Hid (QV w1 Q g len cap) := Lib.hid ((ho.block _ (QV.l HV0.out) (fun e => e)).trans HV0.out)
      have HA1 : Hid (QArr w1 g len cap f') := Lib.hid (HA0.out.keep (ho.block _ HA0.out.lt (fun e => e)))
      have HO1 : Hid (Oth (fun k => k = Q ∨ S k) w w1) := Lib.hid (HO0.out.trans (ho.mono (fun _ _ h => h.elim)))
      have hs := ml_swap (QV.c HV1.out)
      clear ho hl HV0 HA0 HO0
      go_wp2_with fail
      refine (qSwap_any g len cap i j1 f' _ HA1.out hn hin hj1n).mono ?_
      rintro e w2 ⟨rfl, ho, hA2⟩
      have HO2 : Hid (Oth (fun k => k = Q ∨ S k) w w2) := Lib.hid (HO1.out.trans (ho.mono (fun _ _ h => Or.inr (by rw [h]; exact hSg))))
      have HQ2 : Hid (QAt w2 S Q len (swp f' i j1)) := Lib.hid ⟨g, cap, (ho.block _ (QV.l HV1.out) (fun e => hgQ e.symm)).trans HV1.out, hSg, hgQ, hA2⟩
      have HU2 : Hid (HpDn V.c (swp f' i j1) m j1) := Lib.hid (by have h := dn_step HU.out h1 (by rw [HL.out]; exact hc); rw [HL.out] at h; exact h)
      have hjm : j1 < m := by rw [← HL.out]; exact les_lt _ _ h1
      have hji : i < j1 := by rw [← HL.out]; exact les_pos _ _ _ _
      have HM2 := Lib.hid (HM.out.swp (show i < m by omega) hjm)
      have HK2 : Hid (∀ k, m ≤ k → swp f' i j1 k = f k) := Lib.hid (fun k hk => by rw [swp_o f' (by omega) (by omega)]; exact HK.out k hk)
      clear ho hA2 hs HV1 HA1 HO1
      go_wp2_with fail
      go_roundw
      case rel => exact ⟨j1, swp f' i j1, rfl, Nat.le_of_lt hjm, HU2, HQ2, HO2, HM2, HK2⟩
      case measure => simp [intOf]; omega
    have HL : Hid (les V.c f' m i = j2) := Lib.hid (by unfold les; rw [if_pos ⟨h2, by rw [← HJ2.out, ← HJ1.out]; exact hcc⟩]; exact HJ2.out.symm)
    rw [decide_eq_true hcc]
    rintro e w0 ⟨rfl, ho⟩
    have HV0 : Hid (QV w0 Q g len cap) := Lib.hid ((ho.block _ (QV.l HV.out) (fun e => e)).trans HV.out)
    have HA0 : Hid (QArr w0 g len cap f') := Lib.hid (HA.out.keep (ho.block _ HA.out.lt (fun e => e)))
    have HO0 : Hid (Oth (fun k => k = Q ∨ S k) w w0) := Lib.hid (HO.out.trans (ho.mono (fun _ _ h => h.elim)))
    clear ho hl HV HA HO
    have hl := ml_less (QV.c HV0.out)
    go_wp2_with fail
    refine (qLess_any g len cap j2 i f' _ HA0.out hn hj2n hin).mono ?_
    by_cases hc : (f' j2).c < (f' i).c
    case neg =>
      rw [decide_eq_false hc]
      rintro e w1 ⟨rfl, ho⟩
      have HQ1 : Hid (QAt w1 S Q len f') := Lib.hid ⟨g, cap, (ho.block _ (QV.l HV0.out) (fun e => e)).trans HV0.out, hSg, hgQ, HA0.out.keep (ho.block _ HA0.out.lt (fun e => e))⟩
      have HO1 : Hid (Oth (fun k => k = Q ∨ S k) w w1) := Lib.hid (HO0.out.trans (ho.mono (fun _ _ h => h.elim)))
      clear ho hl HV0 HA0 HO0
      go_wp2_with fail
      refine bodyPost_ret (v := .bool (decide (i0 < i))) (by simp [results, Try.results89, go_sem]) rfl ⟨by first | exact ⟨_, rfl⟩ | (cases (decide (i0 < i)) <;> simp), HO1.out, f', HQ1.out, dn_stop HU.out (by rw [HL.out]; omega), HM.out, HK.out⟩
    rw [decide_eq_true hc]
    rintro e w1 ⟨rfl, ho⟩
    have HV1 : Hid (QV w1 Q g len cap) := Lib.hid ((ho.block _ (QV.l HV0.out) (fun e => e)).trans HV0.out)
    have HA1 : Hid (QArr w1 g len cap f') := Lib.hid (HA0.out.keep (ho.block _ HA0.out.lt (fun e => e)))
    have HO1 : Hid (Oth (fun k => k = Q ∨ S k) w w1) := Lib.hid (HO0.out.trans (ho.mono (fun _ _ h => h.elim)))
    have hs := ml_swap (QV.c HV1.out)
    clear ho hl HV0 HA0 HO0
    go_wp2_with fail
    refine (qSwap_any g len cap i j2 f' _ HA1.out hn hin hj2n).mono ?_
    rintro e w2 ⟨rfl, ho, hA2⟩
    have HO2 : Hid (Oth (fun k => k = Q ∨ S k) w w2) := Lib.hid (HO1.out.trans (ho.mono (fun _ _ h => Or.inr (by rw [h]; exact hSg))))
    have HQ2 : Hid (QAt w2 S Q len (swp f' i j2)) := Lib.hid ⟨g, cap, (ho.block _ (QV.l HV1.out) (fun e => hgQ e.symm)).trans HV1.out, hSg, hgQ, hA2⟩
    have HU2 : Hid (HpDn V.c (swp f' i j2) m j2) := Lib.hid (by have h := dn_step HU.out h1 (by rw [HL.out]; exact hc); rw [HL.out] at h; exact h)
    have hjm : j2 < m := by rw [← HL.out]; exact les_lt _ _ h1
    have hji : i < j2 := by rw [← HL.out]; exact les_pos _ _ _ _
    have HM2 := Lib.hid (HM.out.swp (show i < m by omega) hjm)
    have HK2 : Hid (∀ k, m ≤ k → swp f' i j2 k = f k) := Lib.hid (fun k hk => by rw [swp_o f' (by omega) (by omega)]; exact HK.out k hk)
    clear ho hA2 hs HV1 HA1 HO1
    go_wp2_with fail
    go_roundw
    case rel => exact ⟨j2, swp f' i j2, rfl, Nat.le_of_lt hjm, HU2, HQ2, HO2, HM2, HK2⟩
    case measure => simp [intOf]; omega
theorem QAt.more {w : World} {S S' : Nat → Prop} {Q n : Nat} {f : Nat → V} (h : QAt w S Q n f) (hs : ∀ k, S k → S' k) : QAt w S' Q n f := by
  obtain ⟨g, cap, a, b, c, d⟩ := h
  exact ⟨g, cap, a, hs g b, c, d⟩
theorem QAt.same {w w' : World} {S : Nat → Prop} {Q n : Nat} {f : Nat → V} (h : QAt w S Q n f) (ho : Oth (fun _ => False) w w') : QAt w' S Q n f := by
  obtain ⟨g, cap, a, b, c, d⟩ := h
  exact ⟨g, cap, (ho.block _ (QV.l a) (fun e => e)).trans a, b, c, d.keep (ho.block _ d.lt (fun e => e))⟩
theorem QAt.cell {w : World} {S : Nat → Prop} {Q n : Nat} {f : Nat → V} (h : QAt w S Q n f) : ∃ g cap, w.cell? ⟨Q, 0, none⟩ = some (.slice (some ⟨g, 0, none⟩) n cap) := by
  obtain ⟨g, cap, a, _⟩ := h
  exact ⟨g, cap, QV.c a⟩
set_option maxRecDepth 100000 in
set_option maxHeartbeats 4000000 in
theorem hPush_any (S : Nat → Prop) (Q n : Nat) (f : Nat → V) (x y d c : Int) (w : World) (hq : QAt w S Q n f) (hh : Hp V.c f n) (hn : n < 1000000) (hS : ∀ k, w.heap.size ≤ k → S k) :
    Calls Try.prog 88 #[.iface 119 (.pointer (some ⟨Q, 0, none⟩)), .iface 124 (.agg #[.int .i64 x, .int .i64 y, .int .i64 d, .int .i64 c])] w fun e w' => e = .returned (.tuple #[]) ∧ Oth (fun k => k = Q ∨ S k) w w' ∧ ∃ f', QAt w' S Q (n + 1) f' ∧ Hp V.c f' (n + 1) ∧ ∀ v, (∃ k, k < n + 1 ∧ f' k = v) ↔ (∃ k, k < n ∧ f k = v) ∨ v = ⟨x, y, d, c⟩ := by
  have H0 := Lib.hid hq
  have HH := Lib.hid hh
  clear hq hh
  go_enter Try.func88, Try.ntmps88
  go_wp2_with fail
  refine (qPush_any S Q n f x y d c _ H0.out hn hS).mono ?_
  rintro e w1 ⟨rfl, ho, hq1⟩
  obtain ⟨g, cap, hc⟩ := hq1.cell
  have HO1 := Lib.hid ho
  have HQ1 := Lib.hid hq1
  have hl := ml_len hc
  clear ho hq1 hc H0
  go_wp2_with fail
  refine (qLen_any _ _ _ _).mono ?_
  rintro e w2 ⟨rfl, rfl⟩
  go_wp2_with fail
  refine (up_any S Q (n + 1) n (upd f n ⟨x, y, d, c⟩) _ HQ1.out (Nat.lt_succ_self n) (by omega) (push_up HH.out _)).mono ?_
  rintro e w3 ⟨rfl, ho, f', hq', hh', hm⟩
  have HE : Hid (Oth (fun k => k = Q ∨ S k) w w3 ∧ ∃ f', QAt w3 S Q (n + 1) f' ∧ Hp V.c f' (n + 1) ∧ ∀ v, (∃ k, k < n + 1 ∧ f' k = v) ↔ (∃ k, k < n ∧ f k = v) ∨ v = ⟨x, y, d, c⟩) := Lib.hid ⟨HO1.out.trans ho, f', hq', hh', fun v => (hm v).trans ⟨fun ⟨k, hk, e⟩ => by
    by_cases h : k = n
    · subst h; rw [upd_eq] at e; exact Or.inr e.symm
    · rw [upd_ne _ _ h] at e; exact Or.inl ⟨k, by omega, e⟩, fun h => by
    rcases h with ⟨k, hk, e⟩ | rfl
    · exact ⟨k, by omega, by rw [upd_ne _ _ (by omega)]; exact e⟩
    · exact ⟨n, by omega, upd_eq _ _ _⟩⟩⟩
  clear ho hq' hh' hm HO1 HQ1 hl
  go_wp2_with fail
  go_end0
  exact ⟨rfl, HE.out⟩
set_option maxRecDepth 100000 in
set_option maxHeartbeats 4000000 in
theorem hPop_any (S : Nat → Prop) (Q n : Nat) (f : Nat → V) (w : World) (hq : QAt w S Q (n + 1) f) (hh : Hp V.c f (n + 1)) (hn : n < 1000000) (hS : ∀ k, w.heap.size ≤ k → S k) :
    Calls Try.prog 79 #[.iface 119 (.pointer (some ⟨Q, 0, none⟩))] w fun e w' => e = .returned (.iface 124 (.agg #[.int .i64 (f 0).x, .int .i64 (f 0).y, .int .i64 (f 0).d, .int .i64 (f 0).c])) ∧ Oth (fun k => k = Q ∨ S k) w w' ∧ ∃ f', QAt w' S Q n f' ∧ Hp V.c f' n ∧ (∀ i, i < n + 1 → f i = f 0 ∨ ∃ j, j < n ∧ f' j = f i) ∧ (∀ j, j < n → ∃ i, i < n + 1 ∧ f i = f' j) := by
  obtain ⟨g, cap, hV, hSg, hgQ, hA⟩ := hq
  have hl := ml_len (QV.c hV)
  have hs := ml_swap (QV.c hV)
  have HV := Lib.hid hV
  have HA := Lib.hid hA
  have HH := Lib.hid hh
  clear hV hA hh
  go_enter Try.func79, Try.ntmps79
  go_wp2_with fail
  refine (qLen_any _ _ _ _).mono ?_
  rintro e w2 ⟨rfl, rfl⟩
  go_wp2_with fail
  refine (qSwap_any g (n + 1) cap 0 n f _ HA.out (by omega) (by omega) (by omega)).mono ?_
  rintro e w3 ⟨rfl, ho, hA3⟩
  have HQ3 : Hid (QAt w3 S Q (n + 1) (swp f 0 n)) := Lib.hid ⟨g, cap, (ho.block _ (QV.l HV.out) (fun e => hgQ e.symm)).trans HV.out, hSg, hgQ, hA3⟩
  have HO3 : Hid (Oth (fun k => k = Q ∨ S k) w2 w3) := Lib.hid (ho.mono (fun _ _ h => Or.inr (by rw [h]; exact hSg)))
  have hz : w2.heap.size ≤ w3.heap.size := ho.size
  clear ho hA3 hl hs HV HA
  go_wp2_with fail
  refine (down_any S Q (n + 1) n 0 (swp f 0 n) _ HQ3.out (Nat.le_succ n) (Nat.zero_le _) (by omega) (pop_dn HH.out)).mono ?_
  rintro e w4 ⟨⟨b, rfl⟩, ho, f', hq', hh', hm, hk⟩
  have HQ4 := Lib.hid hq'
  have HO4 : Hid (Oth (fun k => k = Q ∨ S k) w2 w4) := Lib.hid (HO3.out.trans ho)
  have hz4 : w2.heap.size ≤ w4.heap.size := HO4.out.size
  have HF : Hid (Hp V.c f' n ∧ (∀ i, i < n + 1 → f i = f 0 ∨ ∃ j, j < n ∧ f' j = f i) ∧ (∀ j, j < n → ∃ i, i < n + 1 ∧ f i = f' j)) := Lib.hid (by
    refine ⟨hh', fun i hi => ?_, fun j hj => ?_⟩
    · by_cases h0 : i = 0
      · subst h0; exact Or.inl rfl
      · right
        obtain ⟨k, hk, e⟩ := (swp_mem f (show 0 < n + 1 by omega) (Nat.lt_succ_self n) (f i)).2 ⟨i, hi, rfl⟩
        by_cases hkn : k = n
        · by_cases hin : i = n
          · subst hin
            exact (hm (f i)).2 ⟨0, by omega, swp_l f 0 i⟩
          · exact (hm (f i)).2 ⟨i, by omega, swp_o f h0 hin⟩
        · exact (hm (f i)).2 ⟨k, by omega, e⟩
    · obtain ⟨k, hk, e⟩ := (hm (f' j)).1 ⟨j, hj, rfl⟩
      obtain ⟨i, hi, e2⟩ := (swp_mem f (show 0 < n + 1 by omega) (Nat.lt_succ_self n) (f' j)).1 ⟨k, by omega, e⟩
      exact ⟨i, hi, e2⟩)
  have HN : Hid (f' n = f 0) := Lib.hid ((hk n (Nat.le_refl _)).trans (swp_r f 0 n))
  clear ho hq' hh' hm hk HQ3 HO3
  go_wp2_with fail
  refine (qPop_any S Q n f' _ HQ4.out hn (fun k hk => hS k (by omega))).mono ?_
  rintro e w5 ⟨rfl, ho, hq5⟩
  have HE : Hid (Oth (fun k => k = Q ∨ S k) w2 w5 ∧ ∃ f', QAt w5 S Q n f' ∧ Hp V.c f' n ∧ (∀ i, i < n + 1 → f i = f 0 ∨ ∃ j, j < n ∧ f' j = f i) ∧ (∀ j, j < n → ∃ i, i < n + 1 ∧ f i = f' j)) := Lib.hid ⟨HO4.out.trans ho, f', hq5, HF.out⟩
  clear ho hq5 HQ4 HO4 HF
  rw [HN.out]
  go_wp2_with fail
  refine bodyPost_ret (v := .iface 124 (.agg #[.int .i64 (f 0).x, .int .i64 (f 0).y, .int .i64 (f 0).d, .int .i64 (f 0).c])) (by simp [results, Try.results79, go_sem]) rfl ⟨rfl, HE.out⟩
end Go.Proofs.Ytkkcnhhfdicppaa
