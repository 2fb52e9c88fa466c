import Derived.Test.YtkcbkcgampoclaaFv9
namespace Prb
def rgR (r : Int) : Prop := 0 ≤ r ∧ r ≤ 1000000
instance (r : Int) : Decidable (rgR r) := by unfold rgR; infer_instance
def f4 (a b c d : Int) : Nat → Int
  | 0 => a
  | 1 => b
  | 2 => c
  | _ => d
/-- The fringe of four readings, or the error. -/
def frS (a b c d : Int) : (Int × Int × Int) × Int :=
  if rgR a ∧ rgR b ∧ rgR c ∧ rgR d then (if a + c = b + d ∧ vfS (a + c) (a - c) (b - d) = true then ((a + c, a - c, b - d), 0) else ((0, 0, 0), 90)) else ((0, 0, 0), 2)
theorem frS_arg {a b c d : Int} (h : ¬ (rgR a ∧ rgR b ∧ rgR c ∧ rgR d)) : frS a b c d = ((0, 0, 0), 2) := by unfold frS; rw [if_neg h]
theorem frS_no {a b c d : Int} (h : rgR a ∧ rgR b ∧ rgR c ∧ rgR d) (g : ¬ (a + c = b + d ∧ vfS (a + c) (a - c) (b - d) = true)) : frS a b c d = ((0, 0, 0), 90) := by unfold frS; rw [if_pos h, if_neg g]
theorem frS_ok {a b c d : Int} (h : rgR a ∧ rgR b ∧ rgR c ∧ rgR d) (g : a + c = b + d ∧ vfS (a + c) (a - c) (b - d) = true) : frS a b c d = ((a + c, a - c, b - d), 0) := by unfold frS; rw [if_pos h, if_pos g]
end Prb
namespace Go.Proofs.Ytkcbkcgampoclaa
open Go.RowKit Prb
attribute [local go_sem] kx0 kx1 kx2 kx3
/-- What a call with a fringe and an error gives. -/
def FrRet (s : (Int × Int × Int) × Int) : Ending := .returned (.tuple #[.agg #[.int .i64 s.1.1, .int .i64 s.1.2.1, .int .i64 s.1.2.2], .int .i64 s.2])
set_option maxRecDepth 100000 in
set_option maxHeartbeats 4000000 in
theorem pFringe_any (a b c d : Int) (w : World) : Calls Try.prog 7 #[.agg #[.int .i64 a, .int .i64 b, .int .i64 c, .int .i64 d]] w fun e w' => e = FrRet (frS a b c d) ∧ Below w.heap.size w w' := by
  go_enter Try.func7, Try.ntmps7
  go_wp2_with fail
  go_loopw [8] (fun iv wr => ∃ (z : Int) (k : Nat), iv = .int .i64 z ∧ z = k ∧ k ≤ 4 ∧ Hid (∀ j, j < k → rgR (f4 a b c d j)) ∧ Hid (H4 wr w.heap.size a b c d) ∧ Hid (H3 wr (w.heap.size + 1) 0 0 0) ∧ Hid (Below w.heap.size w wr) ∧ w.heap.size + 2 ≤ wr.heap.size) (fun iv _ => 4 - (intOf iv).toNat)
  case atStart => exact ⟨0, 0, rfl, rfl, by omega, Lib.hid (fun j hj => by omega), Lib.hid (by refine ⟨⟨?_, ?_, ?_, ?_⟩, ?_, ?_, ?_, ?_⟩ <;> go_cell), Lib.hid (by refine ⟨⟨?_, ?_, ?_⟩, ?_, ?_, ?_⟩ <;> go_cell), Lib.hid (by go_grown), by simp⟩
  case round =>
    obtain ⟨z, k, rfl, hz, hk, HR, HH, HT, HB, hs⟩ := hrel
    have hbl := HB.out
    by_cases hlt : k < 4
    · have hcs : k = 0 ∨ k = 1 ∨ k = 2 ∨ k = 3 := by omega
      rcases hcs with rfl | rfl | rfl | rfl
      · obtain rfl : z = 0 := by omega
        clear hz hk hlt
        obtain ⟨⟨u0, u1, u2⟩, g0, g1, g2⟩ := HT.out
        by_cases c1 : a < 0
        · have HE := Lib.hid (frS_arg (a := a) (b := b) (c := c) (d := d) (by unfold rgR; omega))
          clear HH HT
          go_wp2_with fail
          refine bodyPost_ret (v := .tuple #[.agg #[.int .i64 0, .int .i64 0, .int .i64 0], .int .i64 2]) (by simp [results, Try.results7, go_sem, *]) rfl ⟨by rw [HE.out]; rfl, by go_grown⟩
        · by_cases c2 : 1000000 < a
          · have HE := Lib.hid (frS_arg (a := a) (b := b) (c := c) (d := d) (by unfold rgR; omega))
            clear HH HT
            go_wp2_with fail
            refine bodyPost_ret (v := .tuple #[.agg #[.int .i64 0, .int .i64 0, .int .i64 0], .int .i64 2]) (by simp [results, Try.results7, go_sem, *]) rfl ⟨by rw [HE.out]; rfl, by go_grown⟩
          · have HR' : Hid (∀ j, j < 1 → rgR (f4 a b c d j)) := Lib.hid (fun j hj => by
              by_cases e : j = 0
              · subst e; exact ⟨by show 0 ≤ a; omega, by show a ≤ 1000000; omega⟩
              · exact HR.out j (by omega))
            clear HR u0 u1 u2 g0 g1 g2
            go_wp2_with fail
            go_roundw
            case rel => exact ⟨1, 1, by first | rfl | simp, rfl, by omega, HR', HH, HT, HB, hs⟩
            case measure => first | (simp [intOf]; done) | (simp [intOf]; omega)
      · obtain rfl : z = 1 := by omega
        clear hz hk hlt
        obtain ⟨⟨u0, u1, u2⟩, g0, g1, g2⟩ := HT.out
        by_cases c1 : b < 0
        · have HE := Lib.hid (frS_arg (a := a) (b := b) (c := c) (d := d) (by unfold rgR; omega))
          clear HH HT
          go_wp2_with fail
          refine bodyPost_ret (v := .tuple #[.agg #[.int .i64 0, .int .i64 0, .int .i64 0], .int .i64 2]) (by simp [results, Try.results7, go_sem, *]) rfl ⟨by rw [HE.out]; rfl, by go_grown⟩
        · by_cases c2 : 1000000 < b
          · have HE := Lib.hid (frS_arg (a := a) (b := b) (c := c) (d := d) (by unfold rgR; omega))
            clear HH HT
            go_wp2_with fail
            refine bodyPost_ret (v := .tuple #[.agg #[.int .i64 0, .int .i64 0, .int .i64 0], .int .i64 2]) (by simp [results, Try.results7, go_sem, *]) rfl ⟨by rw [HE.out]; rfl, by go_grown⟩
          · have HR' : Hid (∀ j, j < 2 → rgR (f4 a b c d j)) := Lib.hid (fun j hj => by
              by_cases e : j = 1
              · subst e; exact ⟨by show 0 ≤ b; omega, by show b ≤ 1000000; omega⟩
              · exact HR.out j (by omega))
            clear HR u0 u1 u2 g0 g1 g2
            go_wp2_with fail
            go_roundw
            case rel => exact ⟨2, 2, by first | rfl | simp, rfl, by omega, HR', HH, HT, HB, hs⟩
            case measure => first | (simp [intOf]; done) | (simp [intOf]; omega)
      · obtain rfl : z = 2 := by omega
        clear hz hk hlt
        obtain ⟨⟨u0, u1, u2⟩, g0, g1, g2⟩ := HT.out
        by_cases c1 : c < 0
        · have HE := Lib.hid (frS_arg (a := a) (b := b) (c := c) (d := d) (by unfold rgR; omega))
          clear HH HT
          go_wp2_with fail
          refine bodyPost_ret (v := .tuple #[.agg #[.int .i64 0, .int .i64 0, .int .i64 0], .int .i64 2]) (by simp [results, Try.results7, go_sem, *]) rfl ⟨by rw [HE.out]; rfl, by go_grown⟩
        · by_cases c2 : 1000000 < c
          · have HE := Lib.hid (frS_arg (a := a) (b := b) (c := c) (d := d) (by unfold rgR; omega))
            clear HH HT
            go_wp2_with fail
            refine bodyPost_ret (v := .tuple #[.agg #[.int .i64 0, .int .i64 0, .int .i64 0], .int .i64 2]) (by simp [results, Try.results7, go_sem, *]) rfl ⟨by rw [HE.out]; rfl, by go_grown⟩
          · have HR' : Hid (∀ j, j < 3 → rgR (f4 a b c d j)) := Lib.hid (fun j hj => by
              by_cases e : j = 2
              · subst e; exact ⟨by show 0 ≤ c; omega, by show c ≤ 1000000; omega⟩
              · exact HR.out j (by omega))
            clear HR u0 u1 u2 g0 g1 g2
            go_wp2_with fail
            go_roundw
            case rel => exact ⟨3, 3, by first | rfl | simp, rfl, by omega, HR', HH, HT, HB, hs⟩
            case measure => first | (simp [intOf]; done) | (simp [intOf]; omega)
      · obtain rfl : z = 3 := by omega
        clear hz hk hlt
        obtain ⟨⟨u0, u1, u2⟩, g0, g1, g2⟩ := HT.out
        by_cases c1 : d < 0
        · have HE := Lib.hid (frS_arg (a := a) (b := b) (c := c) (d := d) (by unfold rgR; omega))
          clear HH HT
          go_wp2_with fail
          refine bodyPost_ret (v := .tuple #[.agg #[.int .i64 0, .int .i64 0, .int .i64 0], .int .i64 2]) (by simp [results, Try.results7, go_sem, *]) rfl ⟨by rw [HE.out]; rfl, by go_grown⟩
        · by_cases c2 : 1000000 < d
          · have HE := Lib.hid (frS_arg (a := a) (b := b) (c := c) (d := d) (by unfold rgR; omega))
            clear HH HT
            go_wp2_with fail
            refine bodyPost_ret (v := .tuple #[.agg #[.int .i64 0, .int .i64 0, .int .i64 0], .int .i64 2]) (by simp [results, Try.results7, go_sem, *]) rfl ⟨by rw [HE.out]; rfl, by go_grown⟩
          · have HR' : Hid (∀ j, j < 4 → rgR (f4 a b c d j)) := Lib.hid (fun j hj => by
              by_cases e : j = 3
              · subst e; exact ⟨by show 0 ≤ d; omega, by show d ≤ 1000000; omega⟩
              · exact HR.out j (by omega))
            clear HR u0 u1 u2 g0 g1 g2
            go_wp2_with fail
            go_roundw
            case rel => exact ⟨4, 4, by first | rfl | simp, rfl, by omega, HR', HH, HT, HB, hs⟩
            case measure => first | (simp [intOf]; done) | (simp [intOf]; omega)
    · obtain rfl : k = 4 := by omega
      obtain rfl : z = 4 := by omega
      clear hz hk hlt
      have ra : rgR a := HR.out 0 (by omega)
      have rb : rgR b := HR.out 1 (by omega)
      have rc : rgR c := HR.out 2 (by omega)
      have rd : rgR d := HR.out 3 (by omega)
      have hall : rgR a ∧ rgR b ∧ rgR c ∧ rgR d := ⟨ra, rb, rc, rd⟩
      unfold rgR at ra rb rc rd
      have w1 : wrap64 (a + c) = a + c := by simp only [wrap64]; omega
      have w2 : wrap64 (a - c) = a - c := by simp only [wrap64]; omega
      have w3 : wrap64 (b - d) = b - d := by simp only [wrap64]; omega
      have w4 : wrap64 (b + d) = b + d := by simp only [wrap64]; omega
      obtain ⟨⟨u0, u1, u2⟩, g0, g1, g2⟩ := HT.out
      obtain ⟨⟨v0, v1, v2, v3⟩, k0, k1, k2, k3⟩ := HH.out
      have hblk : ¬ wr.heap.size = w.heap.size := by omega
      have hblk1 : ¬ wr.heap.size = w.heap.size + 1 := by omega
      have hblk2 : w.heap.size < wr.heap.size := by omega
      have hblk3 : w.heap.size + 1 < wr.heap.size := by omega
      have hblk4 : ¬ w.heap.size = wr.heap.size := by omega
      by_cases heq : a + c = b + d
      · have q1 : ((a + c) != (b + d)) = false := by simp [heq]
        cases hv : vfS (a + c) (a - c) (b - d)
        · have HE := Lib.hid (frS_no hall (fun h => by rw [hv] at h; cases h.2))
          have HV := Lib.hid hv
          clear hv ra rb rc rd hall HR heq HH
          go_wp2_with fail
          refine (pValid_any _ _ _ _).mono ?_
          rw [HV.out]
          rintro e w5 ⟨rfl, hb5⟩
          have HT5 := HT.out.keep (w1 := w5) (Below.trans (by go_grown) (hb5.mono (by first | omega | (simp; done) | (simp; omega))))
          have HB5 := Lib.hid (HB.out.trans (Below.trans (b := _) (by go_grown) (hb5.mono (by first | omega | (simp; done) | (simp; omega)))))
          clear HB hbl u0 u1 u2 g0 g1 g2 hb5 HT
          obtain ⟨⟨u0, u1, u2⟩, g0, g1, g2⟩ := HT5
          have hbl := HB5.out
          go_wp2_with fail
          refine bodyPost_ret (v := .tuple #[.agg #[.int .i64 0, .int .i64 0, .int .i64 0], .int .i64 90]) (by simp [results, Try.results7, go_sem, *]) rfl ⟨by rw [HE.out]; rfl, by go_grown⟩
        · have HE := Lib.hid (frS_ok hall ⟨heq, hv⟩)
          have HV := Lib.hid hv
          clear hv ra rb rc rd hall HR heq HH
          go_wp2_with fail
          refine (pValid_any _ _ _ _).mono ?_
          rw [HV.out]
          rintro e w5 ⟨rfl, hb5⟩
          have HT5 := HT.out.keep (w1 := w5) (Below.trans (by go_grown) (hb5.mono (by first | omega | (simp; done) | (simp; omega))))
          have HF5 := (show H3 (_ : World) wr.heap.size (a + c) (a - c) (b - d) from (by refine ⟨⟨?_, ?_, ?_⟩, ?_, ?_, ?_⟩ <;> go_cell)).keep hb5
          have HB5 := Lib.hid (HB.out.trans (Below.trans (b := _) (by go_grown) (hb5.mono (by first | omega | (simp; done) | (simp; omega)))))
          clear HB hbl u0 u1 u2 g0 g1 g2 hb5 HT
          obtain ⟨⟨u0, u1, u2⟩, g0, g1, g2⟩ := HT5
          obtain ⟨⟨f0, f1, f2⟩, j0, j1, j2⟩ := HF5
          have hbl := HB5.out
          go_wp2_with fail
          refine bodyPost_ret (v := .tuple #[.agg #[.int .i64 (a + c), .int .i64 (a - c), .int .i64 (b - d)], .int .i64 0]) (by simp [results, Try.results7, go_sem, *]) rfl ⟨by rw [HE.out]; rfl, by go_grown⟩
      · have q1 : ((a + c) != (b + d)) = true := bne_iff_ne.2 heq
        have HE := Lib.hid (frS_no hall (fun h => heq h.1))
        clear ra rb rc rd hall HR heq HH
        go_wp2_with fail
        refine bodyPost_ret (v := .tuple #[.agg #[.int .i64 0, .int .i64 0, .int .i64 0], .int .i64 90]) (by simp [results, Try.results7, go_sem, *]) rfl ⟨by rw [HE.out]; rfl, by go_grown⟩
set_option maxRecDepth 100000 in
set_option maxHeartbeats 4000000 in
theorem rFringe_any (a b c d : Int) (w : World) : Calls Try.prog 8 #[.agg #[.int .i64 a, .int .i64 b, .int .i64 c, .int .i64 d]] w fun e w' => e = FrRet (frS a b c d) ∧ Below w.heap.size w w' := by
  go_enter Try.func8, Try.ntmps8
  go_wp2_with fail
  go_loopw [8] (fun iv wr => ∃ (z : Int) (k : Nat), iv = .int .i64 z ∧ z = k ∧ k ≤ 4 ∧ Hid (∀ j, j < k → rgR (f4 a b c d j)) ∧ Hid (H4 wr w.heap.size a b c d) ∧ Hid (H3 wr (w.heap.size + 1) 0 0 0) ∧ Hid (Below w.heap.size w wr) ∧ w.heap.size + 2 ≤ wr.heap.size) (fun iv _ => 4 - (intOf iv).toNat)
  case atStart => exact ⟨0, 0, rfl, rfl, by omega, Lib.hid (fun j hj => by omega), Lib.hid (by refine ⟨⟨?_, ?_, ?_, ?_⟩, ?_, ?_, ?_, ?_⟩ <;> go_cell), Lib.hid (by refine ⟨⟨?_, ?_, ?_⟩, ?_, ?_, ?_⟩ <;> go_cell), Lib.hid (by go_grown), by simp⟩
  case round =>
    obtain ⟨z, k, rfl, hz, hk, HR, HH, HT, HB, hs⟩ := hrel
    have hbl := HB.out
    by_cases hlt : k < 4
    · have hcs : k = 0 ∨ k = 1 ∨ k = 2 ∨ k = 3 := by omega
      rcases hcs with rfl | rfl | rfl | rfl
      · obtain rfl : z = 0 := by omega
        clear hz hk hlt
        obtain ⟨⟨u0, u1, u2⟩, g0, g1, g2⟩ := HT.out
        by_cases c1 : a < 0
        · have HE := Lib.hid (frS_arg (a := a) (b := b) (c := c) (d := d) (by unfold rgR; omega))
          clear HH HT
          go_wp2_with fail
          refine bodyPost_ret (v := .tuple #[.agg #[.int .i64 0, .int .i64 0, .int .i64 0], .int .i64 2]) (by simp [results, Try.results8, go_sem, *]) rfl ⟨by rw [HE.out]; rfl, by go_grown⟩
        · by_cases c2 : 1000000 < a
          · have HE := Lib.hid (frS_arg (a := a) (b := b) (c := c) (d := d) (by unfold rgR; omega))
            clear HH HT
            go_wp2_with fail
            refine bodyPost_ret (v := .tuple #[.agg #[.int .i64 0, .int .i64 0, .int .i64 0], .int .i64 2]) (by simp [results, Try.results8, go_sem, *]) rfl ⟨by rw [HE.out]; rfl, by go_grown⟩
          · have HR' : Hid (∀ j, j < 1 → rgR (f4 a b c d j)) := Lib.hid (fun j hj => by
              by_cases e : j = 0
              · subst e; exact ⟨by show 0 ≤ a; omega, by show a ≤ 1000000; omega⟩
              · exact HR.out j (by omega))
            clear HR u0 u1 u2 g0 g1 g2
            go_wp2_with fail
            go_roundw
            case rel => exact ⟨1, 1, by first | rfl | simp, rfl, by omega, HR', HH, HT, HB, hs⟩
            case measure => first | (simp [intOf]; done) | (simp [intOf]; omega)
      · obtain rfl : z = 1 := by omega
        clear hz hk hlt
        obtain ⟨⟨u0, u1, u2⟩, g0, g1, g2⟩ := HT.out
        by_cases c1 : b < 0
        · have HE := Lib.hid (frS_arg (a := a) (b := b) (c := c) (d := d) (by unfold rgR; omega))
          clear HH HT
          go_wp2_with fail
          refine bodyPost_ret (v := .tuple #[.agg #[.int .i64 0, .int .i64 0, .int .i64 0], .int .i64 2]) (by simp [results, Try.results8, go_sem, *]) rfl ⟨by rw [HE.out]; rfl, by go_grown⟩
        · by_cases c2 : 1000000 < b
          · have HE := Lib.hid (frS_arg (a := a) (b := b) (c := c) (d := d) (by unfold rgR; omega))
            clear HH HT
            go_wp2_with fail
            refine bodyPost_ret (v := .tuple #[.agg #[.int .i64 0, .int .i64 0, .int .i64 0], .int .i64 2]) (by simp [results, Try.results8, go_sem, *]) rfl ⟨by rw [HE.out]; rfl, by go_grown⟩
          · have HR' : Hid (∀ j, j < 2 → rgR (f4 a b c d j)) := Lib.hid (fun j hj => by
              by_cases e : j = 1
              · subst e; exact ⟨by show 0 ≤ b; omega, by show b ≤ 1000000; omega⟩
              · exact HR.out j (by omega))
            clear HR u0 u1 u2 g0 g1 g2
            go_wp2_with fail
            go_roundw
            case rel => exact ⟨2, 2, by first | rfl | simp, rfl, by omega, HR', HH, HT, HB, hs⟩
            case measure => first | (simp [intOf]; done) | (simp [intOf]; omega)
      · obtain rfl : z = 2 := by omega
        clear hz hk hlt
        obtain ⟨⟨u0, u1, u2⟩, g0, g1, g2⟩ := HT.out
        by_cases c1 : c < 0
        · have HE := Lib.hid (frS_arg (a := a) (b := b) (c := c) (d := d) (by unfold rgR; omega))
          clear HH HT
          go_wp2_with fail
          refine bodyPost_ret (v := .tuple #[.agg #[.int .i64 0, .int .i64 0, .int .i64 0], .int .i64 2]) (by simp [results, Try.results8, go_sem, *]) rfl ⟨by rw [HE.out]; rfl, by go_grown⟩
        · by_cases c2 : 1000000 < c
          · have HE := Lib.hid (frS_arg (a := a) (b := b) (c := c) (d := d) (by unfold rgR; omega))
            clear HH HT
            go_wp2_with fail
            refine bodyPost_ret (v := .tuple #[.agg #[.int .i64 0, .int .i64 0, .int .i64 0], .int .i64 2]) (by simp [results, Try.results8, go_sem, *]) rfl ⟨by rw [HE.out]; rfl, by go_grown⟩
          · have HR' : Hid (∀ j, j < 3 → rgR (f4 a b c d j)) := Lib.hid (fun j hj => by
              by_cases e : j = 2
              · subst e; exact ⟨by show 0 ≤ c; omega, by show c ≤ 1000000; omega⟩
              · exact HR.out j (by omega))
            clear HR u0 u1 u2 g0 g1 g2
            go_wp2_with fail
            go_roundw
            case rel => exact ⟨3, 3, by first | rfl | simp, rfl, by omega, HR', HH, HT, HB, hs⟩
            case measure => first | (simp [intOf]; done) | (simp [intOf]; omega)
      · obtain rfl : z = 3 := by omega
        clear hz hk hlt
        obtain ⟨⟨u0, u1, u2⟩, g0, g1, g2⟩ := HT.out
        by_cases c1 : d < 0
        · have HE := Lib.hid (frS_arg (a := a) (b := b) (c := c) (d := d) (by unfold rgR; omega))
          clear HH HT
          go_wp2_with fail
          refine bodyPost_ret (v := .tuple #[.agg #[.int .i64 0, .int .i64 0, .int .i64 0], .int .i64 2]) (by simp [results, Try.results8, go_sem, *]) rfl ⟨by rw [HE.out]; rfl, by go_grown⟩
        · by_cases c2 : 1000000 < d
          · have HE := Lib.hid (frS_arg (a := a) (b := b) (c := c) (d := d) (by unfold rgR; omega))
            clear HH HT
            go_wp2_with fail
            refine bodyPost_ret (v := .tuple #[.agg #[.int .i64 0, .int .i64 0, .int .i64 0], .int .i64 2]) (by simp [results, Try.results8, go_sem, *]) rfl ⟨by rw [HE.out]; rfl, by go_grown⟩
          · have HR' : Hid (∀ j, j < 4 → rgR (f4 a b c d j)) := Lib.hid (fun j hj => by
              by_cases e : j = 3
              · subst e; exact ⟨by show 0 ≤ d; omega, by show d ≤ 1000000; omega⟩
              · exact HR.out j (by omega))
            clear HR u0 u1 u2 g0 g1 g2
            go_wp2_with fail
            go_roundw
            case rel => exact ⟨4, 4, by first | rfl | simp, rfl, by omega, HR', HH, HT, HB, hs⟩
            case measure => first | (simp [intOf]; done) | (simp [intOf]; omega)
    · obtain rfl : k = 4 := by omega
      obtain rfl : z = 4 := by omega
      clear hz hk hlt
      have ra : rgR a := HR.out 0 (by omega)
      have rb : rgR b := HR.out 1 (by omega)
      have rc : rgR c := HR.out 2 (by omega)
      have rd : rgR d := HR.out 3 (by omega)
      have hall : rgR a ∧ rgR b ∧ rgR c ∧ rgR d := ⟨ra, rb, rc, rd⟩
      unfold rgR at ra rb rc rd
      have w1 : wrap64 (a + c) = a + c := by simp only [wrap64]; omega
      have w2 : wrap64 (a - c) = a - c := by simp only [wrap64]; omega
      have w3 : wrap64 (b - d) = b - d := by simp only [wrap64]; omega
      have w4 : wrap64 (b + d) = b + d := by simp only [wrap64]; omega
      obtain ⟨⟨u0, u1, u2⟩, g0, g1, g2⟩ := HT.out
      obtain ⟨⟨v0, v1, v2, v3⟩, k0, k1, k2, k3⟩ := HH.out
      have hblk : ¬ wr.heap.size = w.heap.size := by omega
      have hblk1 : ¬ wr.heap.size = w.heap.size + 1 := by omega
      have hblk2 : w.heap.size < wr.heap.size := by omega
      have hblk3 : w.heap.size + 1 < wr.heap.size := by omega
      have hblk4 : ¬ w.heap.size = wr.heap.size := by omega
      by_cases heq : a + c = b + d
      · have q1 : ((a + c) != (b + d)) = false := by simp [heq]
        cases hv : vfS (a + c) (a - c) (b - d)
        · have HE := Lib.hid (frS_no hall (fun h => by rw [hv] at h; cases h.2))
          have HV := Lib.hid hv
          clear hv ra rb rc rd hall HR heq HH
          go_wp2_with fail
          refine (rValid_any _ _ _ _).mono ?_
          rw [HV.out]
          rintro e w5 ⟨rfl, hb5⟩
          have HT5 := HT.out.keep (w1 := w5) (Below.trans (by go_grown) (hb5.mono (by first | omega | (simp; done) | (simp; omega))))
          have HB5 := Lib.hid (HB.out.trans (Below.trans (b := _) (by go_grown) (hb5.mono (by first | omega | (simp; done) | (simp; omega)))))
          clear HB hbl u0 u1 u2 g0 g1 g2 hb5 HT
          obtain ⟨⟨u0, u1, u2⟩, g0, g1, g2⟩ := HT5
          have hbl := HB5.out
          go_wp2_with fail
          refine bodyPost_ret (v := .tuple #[.agg #[.int .i64 0, .int .i64 0, .int .i64 0], .int .i64 90]) (by simp [results, Try.results8, go_sem, *]) rfl ⟨by rw [HE.out]; rfl, by go_grown⟩
        · have HE := Lib.hid (frS_ok hall ⟨heq, hv⟩)
          have HV := Lib.hid hv
          clear hv ra rb rc rd hall HR heq HH
          go_wp2_with fail
          refine (rValid_any _ _ _ _).mono ?_
          rw [HV.out]
          rintro e w5 ⟨rfl, hb5⟩
          have HT5 := HT.out.keep (w1 := w5) (Below.trans (by go_grown) (hb5.mono (by first | omega | (simp; done) | (simp; omega))))
          have HF5 := (show H3 (_ : World) wr.heap.size (a + c) (a - c) (b - d) from (by refine ⟨⟨?_, ?_, ?_⟩, ?_, ?_, ?_⟩ <;> go_cell)).keep hb5
          have HB5 := Lib.hid (HB.out.trans (Below.trans (b := _) (by go_grown) (hb5.mono (by first | omega | (simp; done) | (simp; omega)))))
          clear HB hbl u0 u1 u2 g0 g1 g2 hb5 HT
          obtain ⟨⟨u0, u1, u2⟩, g0, g1, g2⟩ := HT5
          obtain ⟨⟨f0, f1, f2⟩, j0, j1, j2⟩ := HF5
          have hbl := HB5.out
          go_wp2_with fail
          refine bodyPost_ret (v := .tuple #[.agg #[.int .i64 (a + c), .int .i64 (a - c), .int .i64 (b - d)], .int .i64 0]) (by simp [results, Try.results8, go_sem, *]) rfl ⟨by rw [HE.out]; rfl, by go_grown⟩
      · have q1 : ((a + c) != (b + d)) = true := bne_iff_ne.2 heq
        have HE := Lib.hid (frS_no hall (fun h => heq h.1))
        clear ra rb rc rd hall HR heq HH
        go_wp2_with fail
        refine bodyPost_ret (v := .tuple #[.agg #[.int .i64 0, .int .i64 0, .int .i64 0], .int .i64 90]) (by simp [results, Try.results8, go_sem, *]) rfl ⟨by rw [HE.out]; rfl, by go_grown⟩
end Go.Proofs.Ytkcbkcgampoclaa
