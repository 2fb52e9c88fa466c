import Derived.Test.YtkcbkcgampoclaaQa9
import Derived.Deep.RegionHeld2
import Derived.Deep.DeepCutAuto
namespace Go.Proofs.Ytkcbkcgampoclaa
open Go.RowKit Ben Prb
theorem act_all7 : (∀ (a : Act) (v : Value), a.put none v = a) ∧ (∀ (a : Act) (d : Tmp) (v : Value), a.put (some d) v = { a with tmps := a.tmps.setIfInBounds d v }) ∧ (∀ {α : Type} (l : List α) (i : Nat) (v : α), l.toArray.setIfInBounds i v = (l.set i v).toArray) ∧ (∀ {α : Type} (x : α) (l : List α) (v : α), (x :: l).set 0 v = v :: l) ∧ (∀ {α : Type} (x : α) (l : List α) (n : Nat) (v : α), (x :: l).set (n + 1) v = x :: l.set n v) :=
  ⟨fun _ _ => rfl, fun _ _ _ => rfl, fun l i v => List.setIfInBounds_toArray l i v, fun _ _ _ => rfl, fun _ _ _ _ => rfl⟩
/-- A test in a block. -/
def HT (w : World) (g : Nat) (ao : Option Addr) (m cap : Nat) (p q : Int) : Prop := w.cell? ⟨g, 0, none⟩ = some (.slice ao m cap) ∧ w.cell? ⟨g, 1, none⟩ = some (.int .i64 p) ∧ w.cell? ⟨g, 2, none⟩ = some (.int .i64 q)
theorem HT.keep {w w1 : World} {g : Nat} {ao : Option Addr} {m cap : Nat} {p q : Int} (h : HT w g ao m cap p q) (hb : Below w.heap.size w w1) : HT w1 g ao m cap p q := by
  obtain ⟨a0, a1, a2⟩ := h
  have hB : g < w.heap.size := World.block_lt_of_cell? w _ a0
  exact ⟨((bcl hb).1 _ _ hB).trans a0, ((bcl hb).1 _ _ hB).trans a1, ((bcl hb).1 _ _ hB).trans a2⟩
def teB (n : Int) (m : Nat) (p q : Int) : Bool := fiB n m p && poB n q
theorem teB_no {n : Int} {m : Nat} {p q : Int} (h : fiB n m p = false) : teB n m p q = false := by unfold teB; rw [h]; rfl
theorem teB_no2 {n : Int} {m : Nat} {p q : Int} (h : fiB n m p = true) (g : poB n q = false) : teB n m p q = false := by unfold teB; rw [h, g]; rfl
theorem teB_ok {n : Int} {m : Nat} {p q : Int} (h : fiB n m p = true) (g : poB n q = true) : teB n m p q = true := by unfold teB; rw [h, g]; rfl
set_option maxRecDepth 100000 in
set_option maxHeartbeats 4000000 in
theorem rIsTest_2 (m cap : Nat) (ao : Option Addr) (p q : Int) (w : World) (hm : m ≤ 9223372036854775807) :
    Calls Try.prog 41 #[.int .i64 2, .agg #[.slice ao m cap, .int .i64 p, .int .i64 q]] w fun e w' => e = .returned (.bool (teB 2 m p q)) ∧ Below w.heap.size w w' := by
  cases h1 : fiB 2 m p
  · have HE := Lib.hid (teB_no (q := q) h1)
    have H1 := Lib.hid h1
    clear h1
    go_enter Try.func41, Try.ntmps41
    go_wp2_with fail
    refine (rFits9_2 m cap ao p hm _).mono ?_
    rw [H1.out]
    rintro e w' ⟨rfl, rfl⟩
    go_wp2_with fail
    go_ret
    exact ⟨by rw [HE.out] <;> rfl, by go_grown⟩
  have H1 := Lib.hid h1
  by_cases h2 : 0 ≤ q
  · have HE := Lib.hid (show teB 2 m p q = decide (q < 2) from by
      unfold teB poB
      rw [h1, Bool.true_and]
      by_cases h : q < 2
      · rw [decide_eq_true h, decide_eq_true ⟨h2, h⟩]
      · rw [decide_eq_false h, decide_eq_false fun g => h g.2])
    clear h1
    go_enter Try.func41, Try.ntmps41
    go_wp2_with fail
    refine (rFits9_2 m cap ao p hm _).mono ?_
    rw [H1.out]
    rintro e w' ⟨rfl, rfl⟩
    go_wp2_with fail
    go_ret
    exact ⟨by rw [HE.out] <;> rfl, by go_grown⟩
  · have HE := Lib.hid (teB_no2 h1 (show poB 2 q = false from decide_eq_false fun g => h2 g.1))
    clear h1
    go_enter Try.func41, Try.ntmps41
    go_wp2_with fail
    refine (rFits9_2 m cap ao p hm _).mono ?_
    rw [H1.out]
    rintro e w' ⟨rfl, rfl⟩
    go_wp2_with fail
    go_ret
    exact ⟨by rw [HE.out] <;> rfl, by go_grown⟩
set_option maxRecDepth 100000 in
set_option maxHeartbeats 4000000 in
theorem pAreTests_2 (m cap : Nat) (ao : Option Addr) (p q : Int) (b dap : Nat) (w : World) (hm : m ≤ 9223372036854775807) (hc : HT w b ao m cap p q) :
    Calls Try.prog 40 #[.int .i64 2, .slice (some ⟨b, 0, none⟩) 1 dap] w fun e w' => e = .returned (.bool (teB 2 m p q)) ∧ Below w.heap.size w w' := by
  have HC := Lib.hid hc
  clear hc
  go_enter Try.func40, Try.ntmps40
  go_wp2_with fail
  go_loopw [12] (fun iv wr => ∃ z : Int, iv = .int .i64 z ∧ (z = 0 ∨ (z = 1 ∧ teB 2 m p q = true)) ∧ Hid (Below w.heap.size w wr)) (fun iv _ => 1 - (intOf iv).toNat)
  case atStart => exact ⟨0, rfl, Or.inl rfl, Lib.hid (Below.refl _ _)⟩
  case round =>
    obtain ⟨z, rfl, hh, HB⟩ := hrel
    have hbl := HB.out
    have hsz := HB.out.size
    rcases hh with rfl | ⟨rfl, hi⟩
    · obtain ⟨c0, c1, c2⟩ := HC.out.keep HB.out
      have lb : b < wr.heap.size := World.block_lt_of_cell? wr _ c0
      cases h1 : fiB 2 m p
      · have HE := Lib.hid (teB_no (q := q) h1)
        have H1 := Lib.hid h1
        clear h1
        go_wp2_with fail
        refine (pFits_2 m cap ao p hm _).mono ?_
        rw [H1.out]
        rintro e w' ⟨rfl, rfl⟩
        go_wp2_with fail
        go_ret
        exact ⟨by rw [HE.out] <;> rfl, by go_grown⟩
      cases h2 : poB 2 q
      · have HE := Lib.hid (teB_no2 h1 h2)
        have H1 := Lib.hid h1
        have H2 := Lib.hid h2
        clear h1 h2
        go_wp2_with fail
        refine (pFits_2 m cap ao p hm _).mono ?_
        rw [H1.out]
        rintro e w' ⟨rfl, rfl⟩
        go_wp2_with fail
        refine (isPort_any 2 q _).mono ?_
        rw [H2.out]
        rintro e w' ⟨rfl, rfl⟩
        go_wp2_with fail
        go_ret
        exact ⟨by rw [HE.out] <;> rfl, by go_grown⟩
      have HE := Lib.hid (teB_ok h1 h2)
      have H1 := Lib.hid h1
      have H2 := Lib.hid h2
      clear h1 h2
      go_wp2_with fail
      refine (pFits_2 m cap ao p hm _).mono ?_
      rw [H1.out]
      rintro e w' ⟨rfl, rfl⟩
      go_wp2_with fail
      refine (isPort_any 2 q _).mono ?_
      rw [H2.out]
      rintro e w' ⟨rfl, rfl⟩
      go_wp2_with fail
      go_roundw
      case rel => exact ⟨1, by first | rfl | simp, Or.inr ⟨rfl, HE.out⟩, Lib.hid (by go_grown)⟩
      case measure => first | (simp [intOf]; done) | (simp [intOf]; omega)
    · have HE := Lib.hid hi
      clear hi
      go_wp2_with fail
      go_ret
      exact ⟨by rw [HE.out] <;> rfl, by go_grown⟩
set_option maxRecDepth 100000 in
set_option maxHeartbeats 4000000 in
theorem rIsTest_4 (m cap : Nat) (ao : Option Addr) (p q : Int) (w : World) (hm : m ≤ 9223372036854775807) :
    Calls Try.prog 41 #[.int .i64 4, .agg #[.slice ao m cap, .int .i64 p, .int .i64 q]] w fun e w' => e = .returned (.bool (teB 4 m p q)) ∧ Below w.heap.size w w' := by
  cases h1 : fiB 4 m p
  · have HE := Lib.hid (teB_no (q := q) h1)
    have H1 := Lib.hid h1
    clear h1
    go_enter Try.func41, Try.ntmps41
    go_wp2_with fail
    refine (rFits9_4 m cap ao p hm _).mono ?_
    rw [H1.out]
    rintro e w' ⟨rfl, rfl⟩
    go_wp2_with fail
    go_ret
    exact ⟨by rw [HE.out] <;> rfl, by go_grown⟩
  have H1 := Lib.hid h1
  by_cases h2 : 0 ≤ q
  · have HE := Lib.hid (show teB 4 m p q = decide (q < 4) from by
      unfold teB poB
      rw [h1, Bool.true_and]
      by_cases h : q < 4
      · rw [decide_eq_true h, decide_eq_true ⟨h2, h⟩]
      · rw [decide_eq_false h, decide_eq_false fun g => h g.2])
    clear h1
    go_enter Try.func41, Try.ntmps41
    go_wp2_with fail
    refine (rFits9_4 m cap ao p hm _).mono ?_
    rw [H1.out]
    rintro e w' ⟨rfl, rfl⟩
    go_wp2_with fail
    go_ret
    exact ⟨by rw [HE.out] <;> rfl, by go_grown⟩
  · have HE := Lib.hid (teB_no2 h1 (show poB 4 q = false from decide_eq_false fun g => h2 g.1))
    clear h1
    go_enter Try.func41, Try.ntmps41
    go_wp2_with fail
    refine (rFits9_4 m cap ao p hm _).mono ?_
    rw [H1.out]
    rintro e w' ⟨rfl, rfl⟩
    go_wp2_with fail
    go_ret
    exact ⟨by rw [HE.out] <;> rfl, by go_grown⟩
set_option maxRecDepth 100000 in
set_option maxHeartbeats 4000000 in
theorem pAreTests_4 (m cap : Nat) (ao : Option Addr) (p q : Int) (b dap : Nat) (w : World) (hm : m ≤ 9223372036854775807) (hc : HT w b ao m cap p q) :
    Calls Try.prog 40 #[.int .i64 4, .slice (some ⟨b, 0, none⟩) 1 dap] w fun e w' => e = .returned (.bool (teB 4 m p q)) ∧ Below w.heap.size w w' := by
  have HC := Lib.hid hc
  clear hc
  go_enter Try.func40, Try.ntmps40
  go_wp2_with fail
  go_loopw [12] (fun iv wr => ∃ z : Int, iv = .int .i64 z ∧ (z = 0 ∨ (z = 1 ∧ teB 4 m p q = true)) ∧ Hid (Below w.heap.size w wr)) (fun iv _ => 1 - (intOf iv).toNat)
  case atStart => exact ⟨0, rfl, Or.inl rfl, Lib.hid (Below.refl _ _)⟩
  case round =>
    obtain ⟨z, rfl, hh, HB⟩ := hrel
    have hbl := HB.out
    have hsz := HB.out.size
    rcases hh with rfl | ⟨rfl, hi⟩
    · obtain ⟨c0, c1, c2⟩ := HC.out.keep HB.out
      have lb : b < wr.heap.size := World.block_lt_of_cell? wr _ c0
      cases h1 : fiB 4 m p
      · have HE := Lib.hid (teB_no (q := q) h1)
        have H1 := Lib.hid h1
        clear h1
        go_wp2_with fail
        refine (pFits_4 m cap ao p hm _).mono ?_
        rw [H1.out]
        rintro e w' ⟨rfl, rfl⟩
        go_wp2_with fail
        go_ret
        exact ⟨by rw [HE.out] <;> rfl, by go_grown⟩
      cases h2 : poB 4 q
      · have HE := Lib.hid (teB_no2 h1 h2)
        have H1 := Lib.hid h1
        have H2 := Lib.hid h2
        clear h1 h2
        go_wp2_with fail
        refine (pFits_4 m cap ao p hm _).mono ?_
        rw [H1.out]
        rintro e w' ⟨rfl, rfl⟩
        go_wp2_with fail
        refine (isPort_any 4 q _).mono ?_
        rw [H2.out]
        rintro e w' ⟨rfl, rfl⟩
        go_wp2_with fail
        go_ret
        exact ⟨by rw [HE.out] <;> rfl, by go_grown⟩
      have HE := Lib.hid (teB_ok h1 h2)
      have H1 := Lib.hid h1
      have H2 := Lib.hid h2
      clear h1 h2
      go_wp2_with fail
      refine (pFits_4 m cap ao p hm _).mono ?_
      rw [H1.out]
      rintro e w' ⟨rfl, rfl⟩
      go_wp2_with fail
      refine (isPort_any 4 q _).mono ?_
      rw [H2.out]
      rintro e w' ⟨rfl, rfl⟩
      go_wp2_with fail
      go_roundw
      case rel => exact ⟨1, by first | rfl | simp, Or.inr ⟨rfl, HE.out⟩, Lib.hid (by go_grown)⟩
      case measure => first | (simp [intOf]; done) | (simp [intOf]; omega)
    · have HE := Lib.hid hi
      clear hi
      go_wp2_with fail
      go_ret
      exact ⟨by rw [HE.out] <;> rfl, by go_grown⟩
set_option maxRecDepth 100000 in
set_option maxHeartbeats 8000000 in
theorem rAgrees_any (n st : Int) (m cap : Nat) (ao : Option Addr) (s : Nat → Bool) (p q : Int) (w : World) (hm : m ≤ 9223372036854775807) (hc : Bools w ao m s) :
    Calls Try.prog 25 #[.int .i64 n, .int .i64 st, .agg #[.slice ao m cap, .int .i64 p, .int .i64 q]] w fun e w' => e = .returned (.tuple #[.bool (agV n st m s p q).1, .int .i64 (agV n st m s p q).2]) ∧ Below w.heap.size w w' := by
  cases hk : knB n
  · have HE := Lib.hid (agV_arg (m := m) (s := s) (p := p) (q := q) (isB_unk (st := st) hk))
    have HK := Lib.hid hk
    clear hk
    go_enter Try.func25, Try.ntmps25
    go_wp2_with fail
    refine (rKnown_any n _).mono ?_
    rw [HK.out]
    rintro e w' ⟨rfl, rfl⟩
    go_wp2_with fail
    go_ret2
    exact ⟨by rw [HE.out] <;> rfl, by go_grown⟩
  rcases kn_cases hk with rfl | rfl
  · clear hk
    cases h1 : isB 2 st
    · have HE := Lib.hid (agV_arg (m := m) (s := s) (p := p) (q := q) h1)
      have H1 := Lib.hid h1
      clear h1
      go_enter Try.func25, Try.ntmps25
      go_wp2_with fail
      refine (rKnown_any 2 _).mono ?_
      rw [show knB 2 = true from by decide]
      rintro e w' ⟨rfl, rfl⟩
      go_wp2_with fail
      refine (rIsState_2 _ _).mono ?_
      rw [H1.out]
      rintro e w' ⟨rfl, rfl⟩
      go_wp2_with fail
      go_ret2
      exact ⟨by rw [HE.out] <;> rfl, by go_grown⟩
    cases h2 : teB 2 m p q
    · have HE := Lib.hid (agV_no (s := s) h1 h2)
      have H1 := Lib.hid h1
      have H2 := Lib.hid h2
      clear h1 h2
      go_enter Try.func25, Try.ntmps25
      go_wp2_with fail
      refine (rKnown_any 2 _).mono ?_
      rw [show knB 2 = true from by decide]
      rintro e w' ⟨rfl, rfl⟩
      go_wp2_with fail
      refine (rIsState_2 _ _).mono ?_
      rw [H1.out]
      rintro e w' ⟨rfl, rfl⟩
      go_wp2_with fail
      refine (rIsTest_2 m cap ao p q _ hm).mono ?_
      rw [H2.out]
      rintro e w1 ⟨rfl, hb⟩
      have T1 := (show HT (_ : World) w.heap.size ao m cap p q from (by refine ⟨?_, ?_, ?_⟩ <;> first | go_cell | assumption)).keep hb
      have HB1 := Lib.hid (show Below w.heap.size w w1 from Below.trans (by go_grown) (hb.mono (by first | omega | (simp; done) | (simp; omega))))
      have hs1 : w.heap.size < w1.heap.size := by have h9 := hb.size; (try simp at h9); omega
      clear hb
      have hbl := HB1.out
      obtain ⟨t0, t1, t2⟩ := T1
      go_wp2_with fail
      go_ret2
      exact ⟨by rw [HE.out] <;> rfl, by go_grown⟩
    have H1 := Lib.hid h1
    have H2 := Lib.hid h2
    have h3 : fiB 2 m p = true ∧ poB 2 q = true := by
      unfold teB at h2
      rw [Bool.and_eq_true] at h2
      exact h2
    have HE := Lib.hid (agV_ok (s := s) h1 h3.1 h3.2)
    have h2 := h3.1
    have hb := isB_get h1
    rw [show stV 2 = 2 from by decide] at hb
    have hf := fiB_get h2
    rw [show swV 2 = 1 from by decide] at hf
    obtain rfl : m = 1 := by omega
    obtain ⟨a, rfl⟩ := Int.eq_ofNat_of_zero_le hb.1
    obtain ⟨i, rfl⟩ := Int.eq_ofNat_of_zero_le hf.2.1
    have hal : a < 2 := by omega
    have hil : i < 2 := by omega
    have HC := Lib.hid hc
    have HAL := Lib.hid (And.intro hal hil)
    obtain ⟨v, hv⟩ : ∃ v, out (tsB s a) 0 0 i = v := ⟨_, rfl⟩
    have HV := Lib.hid hv
    have HE2 : Hid (agV 2 (a : Int) 1 s (i : Int) q = (((v : Nat) : Int) == q, 0)) := Lib.hid (by rw [← hv]; exact HE.out)
    clear hv
    clear hb hf hc h1 h2 h3 hm hal hil HE
    go_enter Try.func25, Try.ntmps25
    go_wp2_with fail
    refine (rKnown_any 2 _).mono ?_
    rw [show knB 2 = true from by decide]
    rintro e w' ⟨rfl, rfl⟩
    go_wp2_with fail
    refine (rIsState_2 _ _).mono ?_
    rw [H1.out]
    rintro e w' ⟨rfl, rfl⟩
    go_wp2_with fail
    refine (rIsTest_2 1 cap ao (i : Int) q _ (by decide)).mono ?_
    rw [H2.out]
    rintro e w1 ⟨rfl, hb⟩
    have T1 := (show HT (_ : World) w.heap.size ao 1 cap (i : Int) q from (by refine ⟨?_, ?_, ?_⟩ <;> first | go_cell | assumption)).keep hb
    have HB1 := Lib.hid (show Below w.heap.size w w1 from Below.trans (by go_grown) (hb.mono (by first | omega | (simp; done) | (simp; omega))))
    have hs1 : w.heap.size < w1.heap.size := by have h9 := hb.size; (try simp at h9); omega
    clear hb
    have hbl := HB1.out
    obtain ⟨t0, t1, t2⟩ := T1
    have HK : Hid (∀ w', Below w1.heap.size w1 w' → (w'.cell? ⟨w.heap.size, 0, none⟩ = some (.slice ao 1 cap) ∧ w'.cell? ⟨w.heap.size, 1, none⟩ = some (.int .i64 (i : Int)) ∧ w'.cell? ⟨w.heap.size, 2, none⟩ = some (.int .i64 q))) := Lib.hid (fun w' hb => (show HT w1 w.heap.size ao 1 cap (i : Int) q from ⟨t0, t1, t2⟩).keep hb)
    clear t0 t1 t2
    go_upto_region 5 with fail
    refine wp_region_held_drew (S := fun w' => (w'.cell? ⟨w.heap.size, 0, none⟩ = some (.slice ao 1 cap) ∧ w'.cell? ⟨w.heap.size, 1, none⟩ = some (.int .i64 (i : Int)) ∧ w'.cell? ⟨w.heap.size, 2, none⟩ = some (.int .i64 q))) (by kernel_rfl) (HK.out _ ((Below.refl _ _).drew)) (fun hHeld => ?_)
    refine wpAnyH_take (i := 0) (oi := _) (v := ?_) rfl (by kernel_rfl) (by kernel_rfl) (by kernel_rfl) (fun _ _ _ h => h) (Or.inl ⟨by rfl, ?_⟩) (by assumption) ?_
    rotate_left
    · intro w hSw; obtain ⟨s0, s1, s2⟩ := hSw; go_simp; (try with_reducible rfl)
    try change wpAnyH _ _ _ _ _ _ _ (Act.put _ (some 21) _) _
    try simp only [act_all7]
    refine wpAnyH_take (i := 1) (oi := _) (v := ?_) rfl (by kernel_rfl) (by kernel_rfl) (by kernel_rfl) (fun _ _ _ h => h) (Or.inl ⟨by rfl, ?_⟩) (by assumption) ?_
    rotate_left
    · intro w hSw; obtain ⟨s0, s1, s2⟩ := hSw; go_simp; (try with_reducible rfl)
    try change wpAnyH _ _ _ _ _ _ _ (Act.put _ (some 22) _) _
    try simp only [act_all7]
    refine wpAnyH_take (i := 2) (oi := _) (v := ?_) rfl (by kernel_rfl) (by kernel_rfl) (by kernel_rfl) (fun _ _ _ h => h) (Or.inl ⟨by rfl, ?_⟩) (by assumption) ?_
    rotate_left
    · intro w hSw; obtain ⟨s0, s1, s2⟩ := hSw; go_simp; (try with_reducible rfl)
    try change wpAnyH _ _ _ _ _ _ _ (Act.put _ (some 23) _) _
    try simp only [act_all7]
    refine wpAnyH_take (i := 3) (oi := _) (v := ?_) rfl (by kernel_rfl) (by kernel_rfl) (by kernel_rfl) (fun _ _ _ h => h) (Or.inl ⟨by rfl, ?_⟩) (by assumption) ?_
    rotate_left
    · intro w hSw; obtain ⟨s0, s1, s2⟩ := hSw; go_simp; (try with_reducible rfl)
    try change wpAnyH _ _ _ _ _ _ _ (Act.put _ (some 24) _) _
    try simp only [act_all7]
    refine wpAnyH_take (i := 4) (oi := _) (v := ?_) rfl (by kernel_rfl) (by kernel_rfl) (by kernel_rfl) (fun _ _ _ h => h) (Or.inl ⟨by rfl, ?_⟩) (by assumption) ?_
    rotate_left
    · intro w hSw; obtain ⟨s0, s1, s2⟩ := hSw; go_simp; (try with_reducible rfl)
    try change wpAnyH _ _ _ _ _ _ _ (Act.put _ (some 25) _) _
    try simp only [act_all7]
    refine wpAnyH_take (i := 5) (oi := _) (v := ?_) rfl (by kernel_rfl) (by kernel_rfl) (by kernel_rfl) (fun _ _ _ h => h) (Or.inl ⟨by rfl, ?_⟩) (by assumption) ?_
    rotate_left
    · intro w hSw; obtain ⟨s0, s1, s2⟩ := hSw; go_simp; (try with_reducible rfl)
    try change wpAnyH _ _ _ _ _ _ _ (Act.put _ (some 26) _) _
    try simp only [act_all7]
    refine wpAnyH_take (i := 7) (oi := _) (v := ?_) rfl (by kernel_rfl) (by kernel_rfl) (by kernel_rfl) (fun _ _ _ h => h) (Or.inl ⟨by rfl, ?_⟩) (by assumption) ?_
    rotate_left
    · intro w hSw; obtain ⟨s0, s1, s2⟩ := hSw; go_simp; (try with_reducible rfl)
    try change wpAnyH _ _ _ _ _ _ _ (Act.put _ (some 28) _) _
    try simp only [act_all7]
    refine wpAnyH_take (i := 8) (oi := _) (v := ?_) rfl (by kernel_rfl) (by kernel_rfl) (by kernel_rfl) (fun _ _ _ h => h) (Or.inl ⟨by rfl, ?_⟩) (by assumption) ?_
    rotate_left
    · intro w hSw; obtain ⟨s0, s1, s2⟩ := hSw; go_simp; (try with_reducible rfl)
    try change wpAnyH _ _ _ _ _ _ _ (Act.put _ (some 29) _) _
    try simp only [act_all7]
    refine wpAnyH_ready (rs := [6]) (by kernel_rfl) (by simp) ?_
    refine AllReadyH.cons (o := _) rfl (fun K hK => ?_) AllReadyH.nil
    go_simp
    refine (rAns_2 a cap ao s i _ HAL.out.1 HAL.out.2 (HC.out.keep (HB1.out.trans ((Below.refl _ _).drew.mono HB1.out.size)))).mono ?_
    rw [HV.out]
    rintro e w2 ⟨rfl, hb⟩
    have D2 : Below w1.heap.size w1 w2 := (Below.refl _ _).drew.trans hb
    clear hb
    refine hK.out _ _ (HK.out _ D2) (fun hHeld => ?_)
    clear hK K
    try simp only [act_all7]
    refine wpAnyH_take (i := 9) (oi := _) (v := ?_) rfl (by kernel_rfl) (by kernel_rfl) (by kernel_rfl) (fun _ _ _ h => h) (Or.inl ⟨by rfl, ?_⟩) (by assumption) ?_
    rotate_left
    · intro w hSw; obtain ⟨s0, s1, s2⟩ := hSw; go_simp; (try with_reducible rfl)
    try change wpAnyH _ _ _ _ _ _ _ (Act.put _ (some 30) _) _
    try simp only [act_all7]
    refine wpAnyH_take (i := 10) (oi := _) (v := ?_) rfl (by kernel_rfl) (by kernel_rfl) (by kernel_rfl) (fun _ _ _ h => h) (Or.inl ⟨by rfl, ?_⟩) (by assumption) ?_
    rotate_left
    · intro w hSw; obtain ⟨s0, s1, s2⟩ := hSw; go_simp; (try with_reducible rfl)
    try change wpAnyH _ _ _ _ _ _ _ (Act.put _ (some 6) _) _
    try simp only [act_all7]
    refine wpAnyH_take (i := 11) (oi := _) (v := ?_) rfl (by kernel_rfl) (by kernel_rfl) (by kernel_rfl) (fun _ _ _ h => h) (Or.inl ⟨by rfl, ?_⟩) (by assumption) ?_
    rotate_left
    · intro w hSw; obtain ⟨s0, s1, s2⟩ := hSw; go_simp; (try with_reducible rfl)
    try change wpAnyH _ _ _ _ _ _ _ (Act.put _ (some 7) _) _
    try simp only [act_all7]
    refine wpAnyH_done (by kernel_rfl) ?_ _
    have hbl2 := HB1.out.trans (D2.mono HB1.out.size)
    clear HK hHeld D2 hbl
    go_wp2_with fail
    go_ret2
    exact ⟨by rw [HE2.out] <;> rfl, by go_grown⟩
  · clear hk
    cases h1 : isB 4 st
    · have HE := Lib.hid (agV_arg (m := m) (s := s) (p := p) (q := q) h1)
      have H1 := Lib.hid h1
      clear h1
      go_enter Try.func25, Try.ntmps25
      go_wp2_with fail
      refine (rKnown_any 4 _).mono ?_
      rw [show knB 4 = true from by decide]
      rintro e w' ⟨rfl, rfl⟩
      go_wp2_with fail
      refine (rIsState_4 _ _).mono ?_
      rw [H1.out]
      rintro e w' ⟨rfl, rfl⟩
      go_wp2_with fail
      go_ret2
      exact ⟨by rw [HE.out] <;> rfl, by go_grown⟩
    cases h2 : teB 4 m p q
    · have HE := Lib.hid (agV_no (s := s) h1 h2)
      have H1 := Lib.hid h1
      have H2 := Lib.hid h2
      clear h1 h2
      go_enter Try.func25, Try.ntmps25
      go_wp2_with fail
      refine (rKnown_any 4 _).mono ?_
      rw [show knB 4 = true from by decide]
      rintro e w' ⟨rfl, rfl⟩
      go_wp2_with fail
      refine (rIsState_4 _ _).mono ?_
      rw [H1.out]
      rintro e w' ⟨rfl, rfl⟩
      go_wp2_with fail
      refine (rIsTest_4 m cap ao p q _ hm).mono ?_
      rw [H2.out]
      rintro e w1 ⟨rfl, hb⟩
      have T1 := (show HT (_ : World) w.heap.size ao m cap p q from (by refine ⟨?_, ?_, ?_⟩ <;> first | go_cell | assumption)).keep hb
      have HB1 := Lib.hid (show Below w.heap.size w w1 from Below.trans (by go_grown) (hb.mono (by first | omega | (simp; done) | (simp; omega))))
      have hs1 : w.heap.size < w1.heap.size := by have h9 := hb.size; (try simp at h9); omega
      clear hb
      have hbl := HB1.out
      obtain ⟨t0, t1, t2⟩ := T1
      go_wp2_with fail
      go_ret2
      exact ⟨by rw [HE.out] <;> rfl, by go_grown⟩
    have H1 := Lib.hid h1
    have H2 := Lib.hid h2
    have h3 : fiB 4 m p = true ∧ poB 4 q = true := by
      unfold teB at h2
      rw [Bool.and_eq_true] at h2
      exact h2
    have HE := Lib.hid (agV_ok (s := s) h1 h3.1 h3.2)
    have h2 := h3.1
    have hb := isB_get h1
    rw [show stV 4 = 64 from by decide] at hb
    have hf := fiB_get h2
    rw [show swV 4 = 6 from by decide] at hf
    obtain rfl : m = 6 := by omega
    obtain ⟨a, rfl⟩ := Int.eq_ofNat_of_zero_le hb.1
    obtain ⟨i, rfl⟩ := Int.eq_ofNat_of_zero_le hf.2.1
    have hal : a < 64 := by omega
    have hil : i < 4 := by omega
    have HC := Lib.hid hc
    have HAL := Lib.hid (And.intro hal hil)
    obtain ⟨v, hv⟩ : ∃ v, out (tsB s a) 1 0 i = v := ⟨_, rfl⟩
    have HV := Lib.hid hv
    have HE2 : Hid (agV 4 (a : Int) 6 s (i : Int) q = (((v : Nat) : Int) == q, 0)) := Lib.hid (by rw [← hv]; exact HE.out)
    clear hv
    clear hb hf hc h1 h2 h3 hm hal hil HE
    go_enter Try.func25, Try.ntmps25
    go_wp2_with fail
    refine (rKnown_any 4 _).mono ?_
    rw [show knB 4 = true from by decide]
    rintro e w' ⟨rfl, rfl⟩
    go_wp2_with fail
    refine (rIsState_4 _ _).mono ?_
    rw [H1.out]
    rintro e w' ⟨rfl, rfl⟩
    go_wp2_with fail
    refine (rIsTest_4 6 cap ao (i : Int) q _ (by decide)).mono ?_
    rw [H2.out]
    rintro e w1 ⟨rfl, hb⟩
    have T1 := (show HT (_ : World) w.heap.size ao 6 cap (i : Int) q from (by refine ⟨?_, ?_, ?_⟩ <;> first | go_cell | assumption)).keep hb
    have HB1 := Lib.hid (show Below w.heap.size w w1 from Below.trans (by go_grown) (hb.mono (by first | omega | (simp; done) | (simp; omega))))
    have hs1 : w.heap.size < w1.heap.size := by have h9 := hb.size; (try simp at h9); omega
    clear hb
    have hbl := HB1.out
    obtain ⟨t0, t1, t2⟩ := T1
    have HK : Hid (∀ w', Below w1.heap.size w1 w' → (w'.cell? ⟨w.heap.size, 0, none⟩ = some (.slice ao 6 cap) ∧ w'.cell? ⟨w.heap.size, 1, none⟩ = some (.int .i64 (i : Int)) ∧ w'.cell? ⟨w.heap.size, 2, none⟩ = some (.int .i64 q))) := Lib.hid (fun w' hb => (show HT w1 w.heap.size ao 6 cap (i : Int) q from ⟨t0, t1, t2⟩).keep hb)
    clear t0 t1 t2
    go_upto_region 5 with fail
    refine wp_region_held_drew (S := fun w' => (w'.cell? ⟨w.heap.size, 0, none⟩ = some (.slice ao 6 cap) ∧ w'.cell? ⟨w.heap.size, 1, none⟩ = some (.int .i64 (i : Int)) ∧ w'.cell? ⟨w.heap.size, 2, none⟩ = some (.int .i64 q))) (by kernel_rfl) (HK.out _ ((Below.refl _ _).drew)) (fun hHeld => ?_)
    refine wpAnyH_take (i := 0) (oi := _) (v := ?_) rfl (by kernel_rfl) (by kernel_rfl) (by kernel_rfl) (fun _ _ _ h => h) (Or.inl ⟨by rfl, ?_⟩) (by assumption) ?_
    rotate_left
    · intro w hSw; obtain ⟨s0, s1, s2⟩ := hSw; go_simp; (try with_reducible rfl)
    try change wpAnyH _ _ _ _ _ _ _ (Act.put _ (some 21) _) _
    try simp only [act_all7]
    refine wpAnyH_take (i := 1) (oi := _) (v := ?_) rfl (by kernel_rfl) (by kernel_rfl) (by kernel_rfl) (fun _ _ _ h => h) (Or.inl ⟨by rfl, ?_⟩) (by assumption) ?_
    rotate_left
    · intro w hSw; obtain ⟨s0, s1, s2⟩ := hSw; go_simp; (try with_reducible rfl)
    try change wpAnyH _ _ _ _ _ _ _ (Act.put _ (some 22) _) _
    try simp only [act_all7]
    refine wpAnyH_take (i := 2) (oi := _) (v := ?_) rfl (by kernel_rfl) (by kernel_rfl) (by kernel_rfl) (fun _ _ _ h => h) (Or.inl ⟨by rfl, ?_⟩) (by assumption) ?_
    rotate_left
    · intro w hSw; obtain ⟨s0, s1, s2⟩ := hSw; go_simp; (try with_reducible rfl)
    try change wpAnyH _ _ _ _ _ _ _ (Act.put _ (some 23) _) _
    try simp only [act_all7]
    refine wpAnyH_take (i := 3) (oi := _) (v := ?_) rfl (by kernel_rfl) (by kernel_rfl) (by kernel_rfl) (fun _ _ _ h => h) (Or.inl ⟨by rfl, ?_⟩) (by assumption) ?_
    rotate_left
    · intro w hSw; obtain ⟨s0, s1, s2⟩ := hSw; go_simp; (try with_reducible rfl)
    try change wpAnyH _ _ _ _ _ _ _ (Act.put _ (some 24) _) _
    try simp only [act_all7]
    refine wpAnyH_take (i := 4) (oi := _) (v := ?_) rfl (by kernel_rfl) (by kernel_rfl) (by kernel_rfl) (fun _ _ _ h => h) (Or.inl ⟨by rfl, ?_⟩) (by assumption) ?_
    rotate_left
    · intro w hSw; obtain ⟨s0, s1, s2⟩ := hSw; go_simp; (try with_reducible rfl)
    try change wpAnyH _ _ _ _ _ _ _ (Act.put _ (some 25) _) _
    try simp only [act_all7]
    refine wpAnyH_take (i := 5) (oi := _) (v := ?_) rfl (by kernel_rfl) (by kernel_rfl) (by kernel_rfl) (fun _ _ _ h => h) (Or.inl ⟨by rfl, ?_⟩) (by assumption) ?_
    rotate_left
    · intro w hSw; obtain ⟨s0, s1, s2⟩ := hSw; go_simp; (try with_reducible rfl)
    try change wpAnyH _ _ _ _ _ _ _ (Act.put _ (some 26) _) _
    try simp only [act_all7]
    refine wpAnyH_take (i := 7) (oi := _) (v := ?_) rfl (by kernel_rfl) (by kernel_rfl) (by kernel_rfl) (fun _ _ _ h => h) (Or.inl ⟨by rfl, ?_⟩) (by assumption) ?_
    rotate_left
    · intro w hSw; obtain ⟨s0, s1, s2⟩ := hSw; go_simp; (try with_reducible rfl)
    try change wpAnyH _ _ _ _ _ _ _ (Act.put _ (some 28) _) _
    try simp only [act_all7]
    refine wpAnyH_take (i := 8) (oi := _) (v := ?_) rfl (by kernel_rfl) (by kernel_rfl) (by kernel_rfl) (fun _ _ _ h => h) (Or.inl ⟨by rfl, ?_⟩) (by assumption) ?_
    rotate_left
    · intro w hSw; obtain ⟨s0, s1, s2⟩ := hSw; go_simp; (try with_reducible rfl)
    try change wpAnyH _ _ _ _ _ _ _ (Act.put _ (some 29) _) _
    try simp only [act_all7]
    refine wpAnyH_ready (rs := [6]) (by kernel_rfl) (by simp) ?_
    refine AllReadyH.cons (o := _) rfl (fun K hK => ?_) AllReadyH.nil
    go_simp
    refine (rAns_4 a cap ao s i _ HAL.out.1 HAL.out.2 (HC.out.keep (HB1.out.trans ((Below.refl _ _).drew.mono HB1.out.size)))).mono ?_
    rw [HV.out]
    rintro e w2 ⟨rfl, hb⟩
    have D2 : Below w1.heap.size w1 w2 := (Below.refl _ _).drew.trans hb
    clear hb
    refine hK.out _ _ (HK.out _ D2) (fun hHeld => ?_)
    clear hK K
    try simp only [act_all7]
    refine wpAnyH_take (i := 9) (oi := _) (v := ?_) rfl (by kernel_rfl) (by kernel_rfl) (by kernel_rfl) (fun _ _ _ h => h) (Or.inl ⟨by rfl, ?_⟩) (by assumption) ?_
    rotate_left
    · intro w hSw; obtain ⟨s0, s1, s2⟩ := hSw; go_simp; (try with_reducible rfl)
    try change wpAnyH _ _ _ _ _ _ _ (Act.put _ (some 30) _) _
    try simp only [act_all7]
    refine wpAnyH_take (i := 10) (oi := _) (v := ?_) rfl (by kernel_rfl) (by kernel_rfl) (by kernel_rfl) (fun _ _ _ h => h) (Or.inl ⟨by rfl, ?_⟩) (by assumption) ?_
    rotate_left
    · intro w hSw; obtain ⟨s0, s1, s2⟩ := hSw; go_simp; (try with_reducible rfl)
    try change wpAnyH _ _ _ _ _ _ _ (Act.put _ (some 6) _) _
    try simp only [act_all7]
    refine wpAnyH_take (i := 11) (oi := _) (v := ?_) rfl (by kernel_rfl) (by kernel_rfl) (by kernel_rfl) (fun _ _ _ h => h) (Or.inl ⟨by rfl, ?_⟩) (by assumption) ?_
    rotate_left
    · intro w hSw; obtain ⟨s0, s1, s2⟩ := hSw; go_simp; (try with_reducible rfl)
    try change wpAnyH _ _ _ _ _ _ _ (Act.put _ (some 7) _) _
    try simp only [act_all7]
    refine wpAnyH_done (by kernel_rfl) ?_ _
    have hbl2 := HB1.out.trans (D2.mono HB1.out.size)
    clear HK hHeld D2 hbl
    go_wp2_with fail
    go_ret2
    exact ⟨by rw [HE2.out] <;> rfl, by go_grown⟩
end Go.Proofs.Ytkcbkcgampoclaa
