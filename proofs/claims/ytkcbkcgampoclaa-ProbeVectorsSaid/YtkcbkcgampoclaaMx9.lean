import Derived.Test.YtkcbkcgampoclaaFf9
namespace Prb
def allV (M X Y : Nat → Int) : Nat → Bool
  | 0 => true
  | n + 1 => allV M X Y n && vfS (M n) (X n) (Y n)
def suI (f : Nat → Int) : Nat → Int
  | 0 => 0
  | n + 1 => suI f n + f n
/-- The fringe with the sums of all fringes, or the error. -/
def mxS (n : Nat) (M X Y : Nat → Int) : (Int × Int × Int) × Int :=
  if allV M X Y n = true then (if 1 ≤ n ∧ n ≤ 100 then (if vfS (suI M n) (suI X n) (suI Y n) = true then ((suI M n, suI X n, suI Y n), 0) else ((0, 0, 0), 4)) else ((0, 0, 0), 2)) else ((0, 0, 0), 90)
theorem mxS_no {n : Nat} {M X Y : Nat → Int} (h : allV M X Y n = false) : mxS n M X Y = ((0, 0, 0), 90) := by unfold mxS; rw [h]; rfl
theorem mxS_arg {n : Nat} {M X Y : Nat → Int} (h : allV M X Y n = true) (g : ¬ (1 ≤ n ∧ n ≤ 100)) : mxS n M X Y = ((0, 0, 0), 2) := by unfold mxS; rw [if_pos h, if_neg g]
theorem mxS_lim {n : Nat} {M X Y : Nat → Int} (h : allV M X Y n = true) (g : 1 ≤ n ∧ n ≤ 100) (k : vfS (suI M n) (suI X n) (suI Y n) = false) : mxS n M X Y = ((0, 0, 0), 4) := by unfold mxS; rw [if_pos h, if_pos g, k]; rfl
theorem mxS_ok {n : Nat} {M X Y : Nat → Int} (h : allV M X Y n = true) (g : 1 ≤ n ∧ n ≤ 100) (k : vfS (suI M n) (suI X n) (suI Y n) = true) : mxS n M X Y = ((suI M n, suI X n, suI Y n), 0) := by unfold mxS; rw [if_pos h, if_pos g, if_pos k]
theorem allV_stop {M X Y : Nat → Int} {k : Nat} (h : vfS (M k) (X k) (Y k) = false) : ∀ n, k < n → allV M X Y n = false := by
  intro n
  induction n with
  | zero => intro h; omega
  | succ n ih =>
    intro hk
    simp only [allV]
    by_cases e : k = n
    · subst e; rw [h]; simp
    · rw [ih (by omega)]; rfl
theorem allV_get {M X Y : Nat → Int} : ∀ {n : Nat}, allV M X Y n = true → ∀ k, k < n → vfS (M k) (X k) (Y k) = true := by
  intro n
  induction n with
  | zero => intro _ k hk; omega
  | succ n ih =>
    intro h k hk
    simp only [allV, Bool.and_eq_true] at h
    by_cases e : k = n
    · subst e; exact h.2
    · exact ih h.1 k (by omega)
theorem suI_bd {f : Nat → Int} {n : Nat} {B : Int} (h : ∀ k, k < n → -B ≤ f k ∧ f k ≤ B) : -(n * B) ≤ suI f n ∧ suI f n ≤ n * B := by
  induction n with
  | zero => simp [suI]
  | succ n ih =>
    have h1 := ih fun k hk => h k (by omega)
    have h2 := h n (by omega)
    simp only [suI]
    rw [show (((n + 1 : Nat) : Int) * B) = n * B + B by push_cast; rw [Int.add_mul, Int.one_mul]]
    omega
/-- The sums of at most 100 valid fringes. -/
theorem sums_bd {M X Y : Nat → Int} {n k : Nat} (h : allV M X Y n = true) (hn : n ≤ 100) (hk : k ≤ n) : (-200000000 ≤ suI M k ∧ suI M k ≤ 200000000) ∧ (-200000000 ≤ suI X k ∧ suI X k ≤ 200000000) ∧ (-200000000 ≤ suI Y k ∧ suI Y k ≤ 200000000) := by
  have hv : ∀ j, j < k → vfP (M j) (X j) (Y j) := fun j hj => of_decide_eq_true (allV_get h j (by omega))
  have hk' : (k : Int) * 2000000 ≤ 100 * 2000000 := Int.mul_le_mul_of_nonneg_right (by omega) (by omega)
  have a := suI_bd (f := M) (n := k) (B := 2000000) fun j hj => by have := (hv j hj).1; omega
  have b := suI_bd (f := X) (n := k) (B := 2000000) fun j hj => by have := (hv j hj).2.1; omega
  have c := suI_bd (f := Y) (n := k) (B := 2000000) fun j hj => by have := (hv j hj).2.2.1; omega
  omega
end Prb
namespace Go.Proofs.Ytkcbkcgampoclaa
open Go.RowKit Prb
def FrAt (w : World) (b o : Nat) (m x y : Int) : Prop := w.cell? ⟨b, o, none⟩ = some (.int .i64 m) ∧ w.cell? ⟨b, o + 1, none⟩ = some (.int .i64 x) ∧ w.cell? ⟨b, o + 2, none⟩ = some (.int .i64 y)
/-- A slice of fringes, nil and empty ones let in. -/
def Frs (w : World) (ao : Option Addr) (n : Nat) (M X Y : Nat → Int) : Prop := 0 < n → ∃ b o, ao = some ⟨b, o, none⟩ ∧ ∀ i, i < n → FrAt w b (o + i * 3) (M i) (X i) (Y i)
theorem Frs.keep {w w1 : World} {ao : Option Addr} {n : Nat} {M X Y : Nat → Int} (h : Frs w ao n M X Y) (hb : Below w.heap.size w w1) : Frs w1 ao n M X Y := by
  intro hn
  obtain ⟨b, o, e, hc⟩ := h hn
  refine ⟨b, o, e, fun i hi => ?_⟩
  obtain ⟨h0, h1, h2⟩ := hc i hi
  have hB : b < w.heap.size := World.block_lt_of_cell? w _ h0
  exact ⟨((bcl hb).1 _ _ hB).trans h0, ((bcl hb).1 _ _ hB).trans h1, ((bcl hb).1 _ _ hB).trans h2⟩
set_option maxRecDepth 100000 in
set_option maxHeartbeats 8000000 in
theorem pMixed_any (n cap : Nat) (ao : Option Addr) (M X Y : Nat → Int) (w : World) (hn : n ≤ 9223372036854775807) (hc : Frs w ao n M X Y) :
    Calls Try.prog 18 #[.slice ao n cap] w fun e w' => e = FrRet (mxS n M X Y) ∧ Below w.heap.size w w' := by
  have HC := Lib.hid hc
  clear hc
  go_enter Try.func18, Try.ntmps18
  go_wp2_with fail
  go_loopw [11] (fun iv wr => ∃ k : Nat, iv = .int .i64 k ∧ k ≤ n ∧ Hid (allV M X Y k = true) ∧ Hid (H3 wr w.heap.size 0 0 0) ∧ Hid (Below w.heap.size w wr) ∧ w.heap.size < wr.heap.size) (fun iv _ => n - (intOf iv).toNat)
  case atStart => exact ⟨0, rfl, Nat.zero_le _, Lib.hid rfl, Lib.hid (by refine ⟨⟨?_, ?_, ?_⟩, ?_, ?_, ?_⟩ <;> go_cell), Lib.hid (by go_grown), by simp⟩
  case round =>
    obtain ⟨k, rfl, hk, HV, HT, HB, hs⟩ := hrel
    have hbl := HB.out
    obtain ⟨⟨t0, t1, t2⟩, tf0, tf1, tf2⟩ := HT.out
    by_cases hlt : k < n
    · obtain ⟨b, o, rfl, hcell⟩ := (HC.out.keep HB.out) (by omega)
      obtain ⟨c0, c1, c2⟩ := hcell k hlt
      have lb : b < wr.heap.size := World.block_lt_of_cell? wr _ c0
      obtain ⟨m, hm⟩ : ∃ m, M k = m := ⟨_, rfl⟩
      obtain ⟨x, hx⟩ : ∃ x, X k = x := ⟨_, rfl⟩
      obtain ⟨y, hy⟩ : ∃ y, Y k = y := ⟨_, rfl⟩
      rw [hm] at c0
      rw [hx] at c1
      rw [hy] at c2
      have HM := Lib.hid (And.intro hm (And.intro hx hy))
      have l0 : ¬ w.heap.size = wr.heap.size := by omega
      have l1 : ¬ wr.heap.size = w.heap.size := by omega
      clear hcell hm hx hy
      cases hv : vfS m x y
      · have HE := Lib.hid (mxS_no (allV_stop (M := M) (X := X) (Y := Y) (k := k) (by rw [HM.out.1, HM.out.2.1, HM.out.2.2]; exact hv) n hlt))
        have HW := Lib.hid hv
        clear hv
        go_wp2_with fail
        refine (pValid_any m x y _).mono ?_
        rw [HW.out]
        rintro e w1 ⟨rfl, hb⟩
        have T1_0 := (show H3 (_ : World) w.heap.size 0 0 0 from (by refine ⟨⟨?_, ?_, ?_⟩, ?_, ?_, ?_⟩ <;> first | go_cell | assumption)).keep hb
        have HB1 := Lib.hid (show Below w.heap.size w w1 from Below.trans (by go_grown) (hb.mono (by first | omega | (simp; done) | (simp; omega))))
        have hs1 : w.heap.size < w1.heap.size := by have h9 := hb.size; (try simp at h9); omega
        clear hb t0 t1 t2 tf0 tf1 tf2 c0 c1 c2
        have hbl := HB1.out
        obtain ⟨⟨h1_0_0, h1_0_1, h1_0_2⟩, z1_0_0, z1_0_1, z1_0_2⟩ := T1_0
        have l1_0 : w.heap.size < w1.heap.size := by omega
        have e1_0 : ¬ w.heap.size = w1.heap.size := by omega
        have f1_0 : ¬ w1.heap.size = w.heap.size := by omega
        go_wp2_with fail
        refine bodyPost_ret (v := .tuple #[.agg #[.int .i64 0, .int .i64 0, .int .i64 0], .int .i64 90]) (by simp [results, Try.results18, go_sem, *]) rfl ⟨by rw [HE.out]; rfl, by go_grown⟩
      · have HV' : Hid (allV M X Y (k + 1) = true) := Lib.hid (by simp only [allV]; rw [HV.out, HM.out.1, HM.out.2.1, HM.out.2.2, hv]; rfl)
        have HW := Lib.hid hv
        clear hv
        go_wp2_with fail
        refine (pValid_any m x y _).mono ?_
        rw [HW.out]
        rintro e w1 ⟨rfl, hb⟩
        have T1_0 := (show H3 (_ : World) w.heap.size 0 0 0 from (by refine ⟨⟨?_, ?_, ?_⟩, ?_, ?_, ?_⟩ <;> first | go_cell | assumption)).keep hb
        have HB1 := Lib.hid (show Below w.heap.size w w1 from Below.trans (by go_grown) (hb.mono (by first | omega | (simp; done) | (simp; omega))))
        have hs1 : w.heap.size < w1.heap.size := by have h9 := hb.size; (try simp at h9); omega
        clear hb t0 t1 t2 tf0 tf1 tf2 c0 c1 c2
        have hbl := HB1.out
        obtain ⟨⟨h1_0_0, h1_0_1, h1_0_2⟩, z1_0_0, z1_0_1, z1_0_2⟩ := T1_0
        have l1_0 : w.heap.size < w1.heap.size := by omega
        have e1_0 : ¬ w.heap.size = w1.heap.size := by omega
        have f1_0 : ¬ w1.heap.size = w.heap.size := by omega
        go_wp2_with fail
        go_roundw
        case rel => exact ⟨k + 1, by go_num, by omega, HV', Lib.hid (by refine ⟨⟨?_, ?_, ?_⟩, ?_, ?_, ?_⟩ <;> first | go_cell | assumption), HB1, hs1⟩
        case measure => simp [intOf]; omega
    · obtain rfl : n = k := by omega
      by_cases hr : 1 ≤ n ∧ n ≤ 100
      · obtain ⟨wp, hw⟩ : ∃ z, z = wr := ⟨wr, rfl⟩
        subst hw
        have h1 : ¬ (n : Int) < 1 := by omega
        have h2 : ¬ 100 < (n : Int) := by omega
        have g0 : ¬ w.heap.size = wp.heap.size := by omega
        have g1 : ¬ wp.heap.size = w.heap.size := by omega
        have HR := Lib.hid hr
        have HVn := Lib.hid HV.out
        clear hr hlt hk HV
        go_wp2_with fail
        go_loopw [31] (fun iv wr => ∃ k : Nat, iv = .int .i64 k ∧ k ≤ n ∧ Hid (∃ a b c, suI M k = a ∧ suI X k = b ∧ suI Y k = c ∧ H3 wr wp.heap.size a b c) ∧ Hid (H3 wr w.heap.size 0 0 0) ∧ Hid (Below w.heap.size w wr) ∧ wp.heap.size < wr.heap.size) (fun iv _ => n - (intOf iv).toNat)
        case atStart => exact ⟨0, rfl, Nat.zero_le _, Lib.hid ⟨0, 0, 0, rfl, rfl, rfl, by refine ⟨⟨?_, ?_, ?_⟩, ?_, ?_, ?_⟩ <;> go_cell⟩, Lib.hid (by refine ⟨⟨?_, ?_, ?_⟩, ?_, ?_, ?_⟩ <;> first | go_cell | assumption), Lib.hid (by go_grown), by simp⟩
        case round =>
          obtain ⟨k, rfl, hk, HS, HT2, HB2, hs2⟩ := hrel
          clear hbl t0 t1 t2 tf0 tf1 tf2 HT
          have hbl := HB2.out
          obtain ⟨a, b', c, ha, hb', hc', HS'⟩ := HS.out
          obtain ⟨⟨s0, s1, s2⟩, sf0, sf1, sf2⟩ := HS'
          obtain ⟨⟨t0, t1, t2⟩, tf0, tf1, tf2⟩ := HT2.out
          have q0 : ¬ wp.heap.size = wr.heap.size := by omega
          have q1 : ¬ wr.heap.size = wp.heap.size := by omega
          have q2 : ¬ w.heap.size = wr.heap.size := by omega
          have q3 : ¬ wr.heap.size = w.heap.size := by omega
          have q4 : w.heap.size < wr.heap.size := by omega
          have HA := Lib.hid (And.intro ha (And.intro hb' hc'))
          clear HS HT2 ha hb' hc'
          by_cases hlt : k < n
          · obtain ⟨b, o, rfl, hcell⟩ := (HC.out.keep HB2.out) (by omega)
            obtain ⟨c0, c1, c2⟩ := hcell k hlt
            have lb : b < wr.heap.size := World.block_lt_of_cell? wr _ c0
            have hbk := sums_bd (k := k + 1) HVn.out (by have := HR.out; omega) hlt
            simp only [suI] at hbk
            rw [HA.out.1, HA.out.2.1, HA.out.2.2] at hbk
            obtain ⟨m, hm⟩ : ∃ m, M k = m := ⟨_, rfl⟩
            obtain ⟨x, hx⟩ : ∃ x, X k = x := ⟨_, rfl⟩
            obtain ⟨y, hy⟩ : ∃ y, Y k = y := ⟨_, rfl⟩
            rw [hm] at c0 hbk
            rw [hx] at c1 hbk
            rw [hy] at c2 hbk
            have wa : wrap64 (a + m) = a + m := by simp only [wrap64]; omega
            have wb : wrap64 (b' + x) = b' + x := by simp only [wrap64]; omega
            have wc : wrap64 (c + y) = c + y := by simp only [wrap64]; omega
            have HN : Hid (suI M (k + 1) = a + m ∧ suI X (k + 1) = b' + x ∧ suI Y (k + 1) = c + y) := Lib.hid (by simp only [suI]; rw [HA.out.1, HA.out.2.1, HA.out.2.2, hm, hx, hy]; exact ⟨rfl, rfl, rfl⟩)
            clear hcell hm hx hy hbk
            go_wp2_with fail
            go_roundw
            case rel => exact ⟨k + 1, by go_num, by omega, Lib.hid ⟨a + m, b' + x, c + y, HN.out.1, HN.out.2.1, HN.out.2.2, by refine ⟨⟨?_, ?_, ?_⟩, ?_, ?_, ?_⟩ <;> go_cell⟩, Lib.hid (by refine ⟨⟨?_, ?_, ?_⟩, ?_, ?_, ?_⟩ <;> go_cell), Lib.hid (by go_grown), by first | omega | (simp; done) | (simp; omega)⟩
            case measure => simp [intOf]; omega
          · obtain rfl : k = n := by omega
            cases hv : vfS a b' c
            · have HE := Lib.hid (mxS_lim HVn.out HR.out (by rw [HA.out.1, HA.out.2.1, HA.out.2.2]; exact hv))
              have HW := Lib.hid hv
              clear hv hlt hk
              go_wp2_with fail
              refine (pValid_any a b' c _).mono ?_
              rw [HW.out]
              rintro e w1 ⟨rfl, hb⟩
              have T1_0 := (show H3 (_ : World) w.heap.size 0 0 0 from (by refine ⟨⟨?_, ?_, ?_⟩, ?_, ?_, ?_⟩ <;> first | go_cell | assumption)).keep hb
              have T1_1 := (show H3 (_ : World) wp.heap.size a b' c from (by refine ⟨⟨?_, ?_, ?_⟩, ?_, ?_, ?_⟩ <;> first | go_cell | assumption)).keep hb
              have HB1 := Lib.hid (show Below w.heap.size w w1 from Below.trans (by go_grown) (hb.mono (by first | omega | (simp; done) | (simp; omega))))
              have hs1 : wp.heap.size < w1.heap.size := by have h9 := hb.size; (try simp at h9); omega
              clear hb s0 s1 s2 sf0 sf1 sf2 t0 t1 t2 tf0 tf1 tf2
              have hbl := HB1.out
              obtain ⟨⟨h1_0_0, h1_0_1, h1_0_2⟩, z1_0_0, z1_0_1, z1_0_2⟩ := T1_0
              obtain ⟨⟨h1_1_0, h1_1_1, h1_1_2⟩, z1_1_0, z1_1_1, z1_1_2⟩ := T1_1
              have l1_0 : w.heap.size < w1.heap.size := by omega
              have e1_0 : ¬ w.heap.size = w1.heap.size := by omega
              have f1_0 : ¬ w1.heap.size = w.heap.size := by omega
              have l1_1 : wp.heap.size < w1.heap.size := by omega
              have e1_1 : ¬ wp.heap.size = w1.heap.size := by omega
              have f1_1 : ¬ w1.heap.size = wp.heap.size := by omega
              go_wp2_with fail
              refine bodyPost_ret (v := .tuple #[.agg #[.int .i64 0, .int .i64 0, .int .i64 0], .int .i64 4]) (by simp [results, Try.results18, go_sem, *]) rfl ⟨by rw [HE.out]; rfl, by go_grown⟩
            · have HE := Lib.hid (show mxS k M X Y = ((a, b', c), 0) from by rw [mxS_ok HVn.out HR.out (by rw [HA.out.1, HA.out.2.1, HA.out.2.2]; exact hv), HA.out.1, HA.out.2.1, HA.out.2.2])
              have HW := Lib.hid hv
              clear hv hlt hk
              go_wp2_with fail
              refine (pValid_any a b' c _).mono ?_
              rw [HW.out]
              rintro e w1 ⟨rfl, hb⟩
              have T1_0 := (show H3 (_ : World) w.heap.size 0 0 0 from (by refine ⟨⟨?_, ?_, ?_⟩, ?_, ?_, ?_⟩ <;> first | go_cell | assumption)).keep hb
              have T1_1 := (show H3 (_ : World) wp.heap.size a b' c from (by refine ⟨⟨?_, ?_, ?_⟩, ?_, ?_, ?_⟩ <;> first | go_cell | assumption)).keep hb
              have HB1 := Lib.hid (show Below w.heap.size w w1 from Below.trans (by go_grown) (hb.mono (by first | omega | (simp; done) | (simp; omega))))
              have hs1 : wp.heap.size < w1.heap.size := by have h9 := hb.size; (try simp at h9); omega
              clear hb s0 s1 s2 sf0 sf1 sf2 t0 t1 t2 tf0 tf1 tf2
              have hbl := HB1.out
              obtain ⟨⟨h1_0_0, h1_0_1, h1_0_2⟩, z1_0_0, z1_0_1, z1_0_2⟩ := T1_0
              obtain ⟨⟨h1_1_0, h1_1_1, h1_1_2⟩, z1_1_0, z1_1_1, z1_1_2⟩ := T1_1
              have l1_0 : w.heap.size < w1.heap.size := by omega
              have e1_0 : ¬ w.heap.size = w1.heap.size := by omega
              have f1_0 : ¬ w1.heap.size = w.heap.size := by omega
              have l1_1 : wp.heap.size < w1.heap.size := by omega
              have e1_1 : ¬ wp.heap.size = w1.heap.size := by omega
              have f1_1 : ¬ w1.heap.size = wp.heap.size := by omega
              go_wp2_with fail
              refine bodyPost_ret (v := .tuple #[.agg #[.int .i64 a, .int .i64 b', .int .i64 c], .int .i64 0]) (by simp [results, Try.results18, go_sem, *]) rfl ⟨by rw [HE.out]; rfl, by go_grown⟩
      · have HE := Lib.hid (mxS_arg HV.out hr)
        have hcc : (n : Int) < 1 ∨ (¬ (n : Int) < 1 ∧ 100 < (n : Int)) := by omega
        clear hr hlt
        rcases hcc with h1 | ⟨h1, h2⟩
        · go_wp2_with fail
          refine bodyPost_ret (v := .tuple #[.agg #[.int .i64 0, .int .i64 0, .int .i64 0], .int .i64 2]) (by simp [results, Try.results18, go_sem, *]) rfl ⟨by rw [HE.out]; rfl, by go_grown⟩
        · go_wp2_with fail
          refine bodyPost_ret (v := .tuple #[.agg #[.int .i64 0, .int .i64 0, .int .i64 0], .int .i64 2]) (by simp [results, Try.results18, go_sem, *]) rfl ⟨by rw [HE.out]; rfl, by go_grown⟩
set_option maxRecDepth 100000 in
set_option maxHeartbeats 8000000 in
theorem rMixed_any (n cap : Nat) (ao : Option Addr) (M X Y : Nat → Int) (w : World) (hn : n ≤ 9223372036854775807) (hc : Frs w ao n M X Y) :
    Calls Try.prog 19 #[.slice ao n cap] w fun e w' => e = FrRet (mxS n M X Y) ∧ Below w.heap.size w w' := by
  have HC := Lib.hid hc
  clear hc
  go_enter Try.func19, Try.ntmps19
  go_wp2_with fail
  go_loopw [9] (fun iv wr => ∃ (k : Nat) (a b c : Int), iv = .int .i64 k ∧ k ≤ n ∧ Hid (allV M X Y k = true) ∧ Hid (k ≤ 100 → suI M k = a ∧ suI X k = b ∧ suI Y k = c) ∧ Hid (H3 wr w.heap.size 0 0 0) ∧ Hid (H3 wr (w.heap.size + 1) a b c) ∧ Hid (Below w.heap.size w wr) ∧ w.heap.size + 1 < wr.heap.size) (fun iv _ => n - (intOf iv).toNat)
  case atStart => exact ⟨0, 0, 0, 0, rfl, Nat.zero_le _, Lib.hid rfl, Lib.hid (fun _ => ⟨rfl, rfl, rfl⟩), Lib.hid (by refine ⟨⟨?_, ?_, ?_⟩, ?_, ?_, ?_⟩ <;> go_cell), Lib.hid (by refine ⟨⟨?_, ?_, ?_⟩, ?_, ?_, ?_⟩ <;> go_cell), Lib.hid (by go_grown), by simp⟩
  case round =>
    obtain ⟨k, a, b', c, rfl, hk, HV, HA, HT, HS, HB, hs⟩ := hrel
    have hbl := HB.out
    obtain ⟨⟨t0, t1, t2⟩, tf0, tf1, tf2⟩ := HT.out
    obtain ⟨⟨s0, s1, s2⟩, sf0, sf1, sf2⟩ := HS.out
    have l0 : ¬ w.heap.size = wr.heap.size := by omega
    have l1 : ¬ wr.heap.size = w.heap.size := by omega
    have l2 : ¬ w.heap.size + 1 = wr.heap.size := by omega
    have l3 : ¬ wr.heap.size = w.heap.size + 1 := by omega
    have l4 : w.heap.size < wr.heap.size := by omega
    clear HT HS
    by_cases hlt : k < n
    · obtain ⟨b, o, rfl, hcell⟩ := (HC.out.keep HB.out) (by omega)
      obtain ⟨c0, c1, c2⟩ := hcell k hlt
      have lb : b < wr.heap.size := World.block_lt_of_cell? wr _ c0
      obtain ⟨m, hm⟩ : ∃ m, M k = m := ⟨_, rfl⟩
      obtain ⟨x, hx⟩ : ∃ x, X k = x := ⟨_, rfl⟩
      obtain ⟨y, hy⟩ : ∃ y, Y k = y := ⟨_, rfl⟩
      rw [hm] at c0
      rw [hx] at c1
      rw [hy] at c2
      have HM := Lib.hid (And.intro hm (And.intro hx hy))
      clear hcell hm hx hy
      cases hv : vfS m x y
      · have HE := Lib.hid (mxS_no (allV_stop (M := M) (X := X) (Y := Y) (k := k) (by rw [HM.out.1, HM.out.2.1, HM.out.2.2]; exact hv) n hlt))
        have HW := Lib.hid hv
        clear hv
        go_wp2_with fail
        refine (rValid_any m x y _).mono ?_
        rw [HW.out]
        rintro e w1 ⟨rfl, hb⟩
        have T1_0 := (show H3 (_ : World) w.heap.size 0 0 0 from (by refine ⟨⟨?_, ?_, ?_⟩, ?_, ?_, ?_⟩ <;> first | go_cell | assumption)).keep hb
        have T1_1 := (show H3 (_ : World) (w.heap.size + 1) a b' c from (by refine ⟨⟨?_, ?_, ?_⟩, ?_, ?_, ?_⟩ <;> first | go_cell | assumption)).keep hb
        have T1_2 := (show H3 (_ : World) wr.heap.size m x y from (by refine ⟨⟨?_, ?_, ?_⟩, ?_, ?_, ?_⟩ <;> first | go_cell | assumption)).keep hb
        have HB1 := Lib.hid (show Below w.heap.size w w1 from Below.trans (by go_grown) (hb.mono (by first | omega | (simp; done) | (simp; omega))))
        have hs1 : wr.heap.size < w1.heap.size := by have h9 := hb.size; (try simp at h9); omega
        clear hb t0 t1 t2 tf0 tf1 tf2 s0 s1 s2 sf0 sf1 sf2 c0 c1 c2
        have hbl := HB1.out
        obtain ⟨⟨h1_0_0, h1_0_1, h1_0_2⟩, z1_0_0, z1_0_1, z1_0_2⟩ := T1_0
        obtain ⟨⟨h1_1_0, h1_1_1, h1_1_2⟩, z1_1_0, z1_1_1, z1_1_2⟩ := T1_1
        obtain ⟨⟨h1_2_0, h1_2_1, h1_2_2⟩, z1_2_0, z1_2_1, z1_2_2⟩ := T1_2
        have l1_0 : w.heap.size < w1.heap.size := by omega
        have e1_0 : ¬ w.heap.size = w1.heap.size := by omega
        have f1_0 : ¬ w1.heap.size = w.heap.size := by omega
        have l1_1 : (w.heap.size + 1) < w1.heap.size := by omega
        have e1_1 : ¬ (w.heap.size + 1) = w1.heap.size := by omega
        have f1_1 : ¬ w1.heap.size = (w.heap.size + 1) := by omega
        have l1_2 : wr.heap.size < w1.heap.size := by omega
        have e1_2 : ¬ wr.heap.size = w1.heap.size := by omega
        have f1_2 : ¬ w1.heap.size = wr.heap.size := by omega
        go_wp2_with fail
        refine bodyPost_ret (v := .tuple #[.agg #[.int .i64 0, .int .i64 0, .int .i64 0], .int .i64 90]) (by simp [results, Try.results19, go_sem, *]) rfl ⟨by rw [HE.out]; rfl, by go_grown⟩
      · have HV' : Hid (allV M X Y (k + 1) = true) := Lib.hid (by simp only [allV]; rw [HV.out, HM.out.1, HM.out.2.1, HM.out.2.2, hv]; rfl)
        have HW := Lib.hid hv
        clear hv
        go_wp2_with fail
        refine (rValid_any m x y _).mono ?_
        rw [HW.out]
        rintro e w1 ⟨rfl, hb⟩
        have T1_0 := (show H3 (_ : World) w.heap.size 0 0 0 from (by refine ⟨⟨?_, ?_, ?_⟩, ?_, ?_, ?_⟩ <;> first | go_cell | assumption)).keep hb
        have T1_1 := (show H3 (_ : World) (w.heap.size + 1) a b' c from (by refine ⟨⟨?_, ?_, ?_⟩, ?_, ?_, ?_⟩ <;> first | go_cell | assumption)).keep hb
        have T1_2 := (show H3 (_ : World) wr.heap.size m x y from (by refine ⟨⟨?_, ?_, ?_⟩, ?_, ?_, ?_⟩ <;> first | go_cell | assumption)).keep hb
        have HB1 := Lib.hid (show Below w.heap.size w w1 from Below.trans (by go_grown) (hb.mono (by first | omega | (simp; done) | (simp; omega))))
        have hs1 : wr.heap.size < w1.heap.size := by have h9 := hb.size; (try simp at h9); omega
        clear hb t0 t1 t2 tf0 tf1 tf2 s0 s1 s2 sf0 sf1 sf2 c0 c1 c2
        have hbl := HB1.out
        obtain ⟨⟨h1_0_0, h1_0_1, h1_0_2⟩, z1_0_0, z1_0_1, z1_0_2⟩ := T1_0
        obtain ⟨⟨h1_1_0, h1_1_1, h1_1_2⟩, z1_1_0, z1_1_1, z1_1_2⟩ := T1_1
        obtain ⟨⟨h1_2_0, h1_2_1, h1_2_2⟩, z1_2_0, z1_2_1, z1_2_2⟩ := T1_2
        have l1_0 : w.heap.size < w1.heap.size := by omega
        have e1_0 : ¬ w.heap.size = w1.heap.size := by omega
        have f1_0 : ¬ w1.heap.size = w.heap.size := by omega
        have l1_1 : (w.heap.size + 1) < w1.heap.size := by omega
        have e1_1 : ¬ (w.heap.size + 1) = w1.heap.size := by omega
        have f1_1 : ¬ w1.heap.size = (w.heap.size + 1) := by omega
        have l1_2 : wr.heap.size < w1.heap.size := by omega
        have e1_2 : ¬ wr.heap.size = w1.heap.size := by omega
        have f1_2 : ¬ w1.heap.size = wr.heap.size := by omega
        have HN : Hid (k + 1 ≤ 100 → suI M (k + 1) = wrap64 (a + m) ∧ suI X (k + 1) = wrap64 (b' + x) ∧ suI Y (k + 1) = wrap64 (c + y)) := Lib.hid (fun h9 => by
          have hbk := sums_bd (k := k + 1) HV'.out h9 (Nat.le_refl _)
          obtain ⟨e1, e2, e3⟩ := HA.out (by omega)
          simp only [suI] at hbk ⊢
          rw [e1, e2, e3, HM.out.1, HM.out.2.1, HM.out.2.2] at hbk ⊢
          simp only [wrap64]
          omega)
        obtain ⟨a2, ha2⟩ : ∃ z, wrap64 (a + m) = z := ⟨_, rfl⟩
        obtain ⟨b2, hb2⟩ : ∃ z, wrap64 (b' + x) = z := ⟨_, rfl⟩
        obtain ⟨c2', hc2⟩ : ∃ z, wrap64 (c + y) = z := ⟨_, rfl⟩
        rw [ha2, hb2, hc2] at HN
        clear HA HV
        go_wp2_with fail
        go_roundw
        case rel => exact ⟨k + 1, a2, b2, c2', by go_num, by omega, HV', HN, Lib.hid (by refine ⟨⟨?_, ?_, ?_⟩, ?_, ?_, ?_⟩ <;> go_cell), Lib.hid (by refine ⟨⟨?_, ?_, ?_⟩, ?_, ?_, ?_⟩ <;> go_cell), Lib.hid (by go_grown), by first | omega | (simp; done) | (simp; omega)⟩
        case measure => simp [intOf]; omega
    · obtain rfl : n = k := by omega
      by_cases hr : 1 ≤ n ∧ n ≤ 100
      · have h1 : ¬ (n : Int) < 1 := by omega
        have h2 : ¬ 100 < (n : Int) := by omega
        have HA2 := Lib.hid (HA.out hr.2)
        cases hv : vfS a b' c
        · have HE := Lib.hid (mxS_lim HV.out hr (by rw [HA2.out.1, HA2.out.2.1, HA2.out.2.2]; exact hv))
          have HW := Lib.hid hv
          clear hv hlt hk hr
          go_wp2_with fail
          refine (rValid_any a b' c _).mono ?_
          rw [HW.out]
          rintro e w1 ⟨rfl, hb⟩
          have T1_0 := (show H3 (_ : World) w.heap.size 0 0 0 from (by refine ⟨⟨?_, ?_, ?_⟩, ?_, ?_, ?_⟩ <;> first | go_cell | assumption)).keep hb
          have T1_1 := (show H3 (_ : World) (w.heap.size + 1) a b' c from (by refine ⟨⟨?_, ?_, ?_⟩, ?_, ?_, ?_⟩ <;> first | go_cell | assumption)).keep hb
          have HB1 := Lib.hid (show Below w.heap.size w w1 from Below.trans (by go_grown) (hb.mono (by first | omega | (simp; done) | (simp; omega))))
          have hs1 : (w.heap.size + 1) < w1.heap.size := by have h9 := hb.size; (try simp at h9); omega
          clear hb s0 s1 s2 sf0 sf1 sf2 t0 t1 t2 tf0 tf1 tf2
          have hbl := HB1.out
          obtain ⟨⟨h1_0_0, h1_0_1, h1_0_2⟩, z1_0_0, z1_0_1, z1_0_2⟩ := T1_0
          obtain ⟨⟨h1_1_0, h1_1_1, h1_1_2⟩, z1_1_0, z1_1_1, z1_1_2⟩ := T1_1
          have l1_0 : w.heap.size < w1.heap.size := by omega
          have e1_0 : ¬ w.heap.size = w1.heap.size := by omega
          have f1_0 : ¬ w1.heap.size = w.heap.size := by omega
          have l1_1 : (w.heap.size + 1) < w1.heap.size := by omega
          have e1_1 : ¬ (w.heap.size + 1) = w1.heap.size := by omega
          have f1_1 : ¬ w1.heap.size = (w.heap.size + 1) := by omega
          go_wp2_with fail
          refine bodyPost_ret (v := .tuple #[.agg #[.int .i64 0, .int .i64 0, .int .i64 0], .int .i64 4]) (by simp [results, Try.results19, go_sem, *]) rfl ⟨by rw [HE.out]; rfl, by go_grown⟩
        · have HE := Lib.hid (show mxS n M X Y = ((a, b', c), 0) from by rw [mxS_ok HV.out hr (by rw [HA2.out.1, HA2.out.2.1, HA2.out.2.2]; exact hv), HA2.out.1, HA2.out.2.1, HA2.out.2.2])
          have HW := Lib.hid hv
          clear hv hlt hk hr
          go_wp2_with fail
          refine (rValid_any a b' c _).mono ?_
          rw [HW.out]
          rintro e w1 ⟨rfl, hb⟩
          have T1_0 := (show H3 (_ : World) w.heap.size 0 0 0 from (by refine ⟨⟨?_, ?_, ?_⟩, ?_, ?_, ?_⟩ <;> first | go_cell | assumption)).keep hb
          have T1_1 := (show H3 (_ : World) (w.heap.size + 1) a b' c from (by refine ⟨⟨?_, ?_, ?_⟩, ?_, ?_, ?_⟩ <;> first | go_cell | assumption)).keep hb
          have HB1 := Lib.hid (show Below w.heap.size w w1 from Below.trans (by go_grown) (hb.mono (by first | omega | (simp; done) | (simp; omega))))
          have hs1 : (w.heap.size + 1) < w1.heap.size := by have h9 := hb.size; (try simp at h9); omega
          clear hb s0 s1 s2 sf0 sf1 sf2 t0 t1 t2 tf0 tf1 tf2
          have hbl := HB1.out
          obtain ⟨⟨h1_0_0, h1_0_1, h1_0_2⟩, z1_0_0, z1_0_1, z1_0_2⟩ := T1_0
          obtain ⟨⟨h1_1_0, h1_1_1, h1_1_2⟩, z1_1_0, z1_1_1, z1_1_2⟩ := T1_1
          have l1_0 : w.heap.size < w1.heap.size := by omega
          have e1_0 : ¬ w.heap.size = w1.heap.size := by omega
          have f1_0 : ¬ w1.heap.size = w.heap.size := by omega
          have l1_1 : (w.heap.size + 1) < w1.heap.size := by omega
          have e1_1 : ¬ (w.heap.size + 1) = w1.heap.size := by omega
          have f1_1 : ¬ w1.heap.size = (w.heap.size + 1) := by omega
          go_wp2_with fail
          refine bodyPost_ret (v := .tuple #[.agg #[.int .i64 a, .int .i64 b', .int .i64 c], .int .i64 0]) (by simp [results, Try.results19, go_sem, *]) rfl ⟨by rw [HE.out]; rfl, by go_grown⟩
      · have HE := Lib.hid (mxS_arg HV.out hr)
        have hcc : (n : Int) < 1 ∨ (¬ (n : Int) < 1 ∧ 100 < (n : Int)) := by omega
        clear hr hlt
        rcases hcc with h1 | ⟨h1, h2⟩
        · go_wp2_with fail
          refine bodyPost_ret (v := .tuple #[.agg #[.int .i64 0, .int .i64 0, .int .i64 0], .int .i64 2]) (by simp [results, Try.results19, go_sem, *]) rfl ⟨by rw [HE.out]; rfl, by go_grown⟩
        · go_wp2_with fail
          refine bodyPost_ret (v := .tuple #[.agg #[.int .i64 0, .int .i64 0, .int .i64 0], .int .i64 2]) (by simp [results, Try.results19, go_sem, *]) rfl ⟨by rw [HE.out]; rfl, by go_grown⟩
end Go.Proofs.Ytkcbkcgampoclaa
