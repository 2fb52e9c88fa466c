import Derived.Test.YtilclpldfoifkaaEc
namespace Encl
theorem absI_nn (n : Int) : 0 ≤ absI n := by unfold absI; omega
theorem absI_le {n B : Int} (h0 : -B ≤ n) (h1 : n ≤ B) : absI n ≤ B := by unfold absI; omega
/-- The quotient of absolute values is out of range. -/
theorem sc_far {a b d q r : Int} (hd : 0 < d) (h : absI a * absI b = q * d + r) (h0 : 0 ≤ r) (h1 : r < d) (hq : 1099511627776 < q) : scS a b d = .bad 4 := by
  have := sc_abs hd h h0 h1
  unfold scS
  rw [← this]
  apply inR_bad
  rw [okS_iff]
  unfold sgn negS
  split <;> split <;> simp only <;> omega
theorem sc_near {a b d q r : Int} (hd : 0 < d) (h : absI a * absI b = q * d + r) (h0 : 0 ≤ r) (h1 : r < d) : scS a b d = inR (sgn a b ⟨q, if 0 < r then q + 1 else q⟩) := by
  rw [sc_abs hd h h0 h1]; rfl
end Encl
namespace Go.Proofs.Ytilclpldfoifkaa
open Go.RowKit Encl

set_option maxRecDepth 100000 in
set_option maxHeartbeats 4000000 in
theorem scaled_any (a b d : Int) (w : World) (ha0 : -1152921504606846976 ≤ a) (ha1 : a ≤ 1152921504606846976) (hb0 : -1152921504606846976 ≤ b) (hb1 : b ≤ 1152921504606846976) (hd0 : 0 < d) (hd1 : d ≤ 1152921504606846976) :
    Calls Try.prog 80 #[.int .i64 a, .int .i64 b, .int .i64 d] w fun e w' => IsS e (scS a b d) ∧ Below w.heap.size w w' := by
  have hx := absI_le ha0 ha1
  have hy := absI_le hb0 hb1
  have hx0 := absI_nn a
  have hy0 := absI_nn b
  obtain ⟨x, hxe⟩ : ∃ x, absI a = x := ⟨_, rfl⟩
  obtain ⟨y, hye⟩ : ∃ y, absI b = y := ⟨_, rfl⟩
  have HXE := Lib.hid hxe
  have HYE := Lib.hid hye
  rw [hxe] at hx hx0
  rw [hye] at hy hy0
  clear hxe hye
  obtain ⟨SP, hsp⟩ : ∃ SP, scS a b d = SP := ⟨_, rfl⟩
  have HSP := Lib.hid hsp
  rw [hsp]
  clear hsp
  go_enter Try.func80, Try.ntmps80
  go_wp2_with fail
  refine (distance_any a _ (by omega) (by omega)).mono ?_
  rw [HXE.out]
  rintro e w1 ⟨rfl, rfl⟩
  go_wp2_with fail
  refine (distance_any b _ (by omega) (by omega)).mono ?_
  rw [HYE.out]
  rintro e w1 ⟨rfl, rfl⟩
  go_wp2_with fail
  refine (Mul64_any x y _ (by omega) (by omega) (by omega) (by omega)).mono ?_
  rintro e w1 ⟨h, l, rfl, HM, rfl⟩
  have hl0 := HM.out.2.1
  have hl1 := HM.out.2.2.1
  have hh0 := HM.out.2.2.2.1
  have hh1 := HM.out.2.2.2.2
  by_cases hhd : d ≤ h
  · have HZ : Hid (SP = .bad 4) := Lib.hid (by
      rw [← HSP.out]
      have e := HM.out.1
      rw [← HXE.out, ← HYE.out] at e
      have k1 := Int.mul_ediv_add_emod (absI a * absI b) d
      have k2 := Int.emod_nonneg (absI a * absI b) (show d ≠ 0 by omega)
      have k3 := Int.emod_lt_of_pos (absI a * absI b) hd0
      refine sc_far hd0 (q := absI a * absI b / d) (r := absI a * absI b % d) (by rw [Int.mul_comm (absI a * absI b / d)]; omega) k2 k3 ?_
      have : 1099511627777 ≤ absI a * absI b / d := by rw [Int.le_ediv_iff_mul_le hd0, e]; omega
      omega)
    go_wp2_with fail
    refine ⟨rfl, ?_, by go_grown⟩
    rw [HZ.out]
    rfl
  have hhd' : h < d := by omega
  go_wp2_with fail
  refine (Div64_any h l d _ hh0 hhd' (by omega) hl0 hl1).mono ?_
  rintro e w1 ⟨q, r, rfl, HQ, hb⟩
  have HSC : Hid (absI a * absI b = q * d + r) := Lib.hid (by rw [HXE.out, HYE.out, HM.out.1]; exact HQ.out.1)
  have hr0 := HQ.out.2.1
  have hrd := HQ.out.2.2.1
  have hq0 := HQ.out.2.2.2
  have D1 : Below w.heap.size w w1 := Below.trans (by go_grown) (hb.mono (by first | omega | (simp; done) | (simp; omega)))
  have s1 : w.heap.size < w1.heap.size := by have hs := hb.size; (try simp at hs); omega
  obtain ⟨k1, k2⟩ := bcl hb
  have d0 := (k1 w.heap.size 0 (by simp)).trans (by go_cell : _ = some (.int .i64 0))
  have d1 := (k1 w.heap.size 1 (by simp)).trans (by go_cell : _ = some (.int .i64 0))
  have f0 := (k2 w.heap.size 0 (by simp)).trans (by go_cell : _ = false)
  have f1 := (k2 w.heap.size 1 (by simp)).trans (by go_cell : _ = false)
  clear hb k1 k2 hh0 hh1 hl0 hl1
  by_cases hq : 1099511627776 < q
  · have HZ : Hid (SP = .bad 4) := Lib.hid (by
      rw [← HSP.out]
      exact sc_far hd0 HSC.out hr0 hrd hq)
    go_wp2_with fail
    refine ⟨rfl, ?_, by go_grown⟩
    rw [HZ.out]
    rfl
  have hq' : q ≤ 1099511627776 := by omega
  clear hq
  by_cases hr : 0 < r
  · by_cases h1 : a < 0
    · by_cases h2 : b < 0
      · have h1' : decide (a < 0) = true := decide_eq_true h1
        have h2' : decide (b < 0) = true := decide_eq_true h2
        have HN : Hid (SP = inR ⟨q, q + 1⟩) := Lib.hid (by
          rw [← HSP.out, sc_near hd0 HSC.out hr0 hrd, if_pos hr]
          unfold sgn
          rw [if_neg (by simp [*])])
        go_wp2_with fail
        refine (inRange_any (q) (q + 1) _).mono ?_
        rintro e w3 ⟨he, hb⟩
        rw [← HN.out] at he
        have D3 : Below w.heap.size w w3 := Below.trans (by go_grown) (hb.mono (by first | omega | (simp; done) | (simp; omega)))
        have s3 : w.heap.size < w3.heap.size := by have hs := hb.size; (try simp at hs); omega
        obtain ⟨k1, k2⟩ := bcl hb
        have c30 := (k1 w.heap.size 0 (by first | omega | (simp; done) | (simp; omega))).trans (by go_cell : _ = some (.int .i64 0))
        have g30 := (k2 w.heap.size 0 (by first | omega | (simp; done) | (simp; omega))).trans (by go_cell : _ = false)
        have c31 := (k1 w.heap.size 1 (by first | omega | (simp; done) | (simp; omega))).trans (by go_cell : _ = some (.int .i64 0))
        have g31 := (k2 w.heap.size 1 (by first | omega | (simp; done) | (simp; omega))).trans (by go_cell : _ = false)
        clear hb k1 k2 D1
        have HN2 := Lib.hid he
        clear he HN HSP
        rcases SP with ⟨p, t⟩ | k
        · obtain rfl : e = .returned (.agg #[.int .i64 p, .int .i64 t]) := HN2.out
          go_wp2_with fail
          refine bodyPost_ret (v := .agg #[.int .i64 p, .int .i64 t]) (by simp [results, Try.results80, go_sem, *]) rfl ⟨rfl, by go_grown⟩
        · obtain rfl : e = .panicked [{ v := .iface 26 (.int .i64 k), recovered := false }] := HN2.out
          go_wp2_with fail
          exact ⟨rfl, rfl, by go_grown⟩
      · have h1' : decide (a < 0) = true := decide_eq_true h1
        have h2' : decide (b < 0) = false := decide_eq_false h2
        have HN : Hid (SP = inR ⟨-(q + 1), -q⟩) := Lib.hid (by
          rw [← HSP.out, sc_near hd0 HSC.out hr0 hrd, if_pos hr]
          unfold sgn
          rw [if_pos (by simp [*])]
          rfl)
        go_wp2_with fail
        refine (negated_any q (q + 1) _ ⟨by omega, by omega⟩ ⟨by omega, by omega⟩).mono ?_
        rintro e w2 ⟨rfl, hb⟩
        unfold retS
        (try simp only)
        have D2 : Below w.heap.size w w2 := Below.trans (by go_grown) (hb.mono (by first | omega | (simp; done) | (simp; omega)))
        have s2 : w1.heap.size < w2.heap.size := by have hs := hb.size; (try simp at hs); omega
        obtain ⟨k1, k2⟩ := bcl hb
        have c2a0 := (k1 (w.heap.size) 0 (by first | omega | (simp; done) | (simp; omega))).trans (by go_cell : _ = some (.int .i64 (0)))
        have g2a0 := (k2 (w.heap.size) 0 (by first | omega | (simp; done) | (simp; omega))).trans (by go_cell : _ = false)
        have c2a1 := (k1 (w.heap.size) 1 (by first | omega | (simp; done) | (simp; omega))).trans (by go_cell : _ = some (.int .i64 (0)))
        have g2a1 := (k2 (w.heap.size) 1 (by first | omega | (simp; done) | (simp; omega))).trans (by go_cell : _ = false)
        have c2b0 := (k1 (w1.heap.size) 0 (by first | omega | (simp; done) | (simp; omega))).trans (by go_cell : _ = some (.int .i64 (q)))
        have g2b0 := (k2 (w1.heap.size) 0 (by first | omega | (simp; done) | (simp; omega))).trans (by go_cell : _ = false)
        have c2b1 := (k1 (w1.heap.size) 1 (by first | omega | (simp; done) | (simp; omega))).trans (by go_cell : _ = some (.int .i64 (q + 1)))
        have g2b1 := (k2 (w1.heap.size) 1 (by first | omega | (simp; done) | (simp; omega))).trans (by go_cell : _ = false)
        clear hb k1 k2 D1
        go_wp2_with fail
        refine (inRange_any (-(q + 1)) (-q) _).mono ?_
        rintro e w3 ⟨he, hb⟩
        rw [← HN.out] at he
        have D3 : Below w.heap.size w w3 := Below.trans (by go_grown) (hb.mono (by first | omega | (simp; done) | (simp; omega)))
        have s3 : w.heap.size < w3.heap.size := by have hs := hb.size; (try simp at hs); omega
        obtain ⟨k1, k2⟩ := bcl hb
        have c30 := (k1 w.heap.size 0 (by first | omega | (simp; done) | (simp; omega))).trans (by go_cell : _ = some (.int .i64 0))
        have g30 := (k2 w.heap.size 0 (by first | omega | (simp; done) | (simp; omega))).trans (by go_cell : _ = false)
        have c31 := (k1 w.heap.size 1 (by first | omega | (simp; done) | (simp; omega))).trans (by go_cell : _ = some (.int .i64 0))
        have g31 := (k2 w.heap.size 1 (by first | omega | (simp; done) | (simp; omega))).trans (by go_cell : _ = false)
        clear hb k1 k2 D2
        have HN2 := Lib.hid he
        clear he HN HSP
        rcases SP with ⟨p, t⟩ | k
        · obtain rfl : e = .returned (.agg #[.int .i64 p, .int .i64 t]) := HN2.out
          go_wp2_with fail
          refine bodyPost_ret (v := .agg #[.int .i64 p, .int .i64 t]) (by simp [results, Try.results80, go_sem, *]) rfl ⟨rfl, by go_grown⟩
        · obtain rfl : e = .panicked [{ v := .iface 26 (.int .i64 k), recovered := false }] := HN2.out
          go_wp2_with fail
          exact ⟨rfl, rfl, by go_grown⟩
    · by_cases h2 : b < 0
      · have h1' : decide (a < 0) = false := decide_eq_false h1
        have h2' : decide (b < 0) = true := decide_eq_true h2
        have HN : Hid (SP = inR ⟨-(q + 1), -q⟩) := Lib.hid (by
          rw [← HSP.out, sc_near hd0 HSC.out hr0 hrd, if_pos hr]
          unfold sgn
          rw [if_pos (by simp [*])]
          rfl)
        go_wp2_with fail
        refine (negated_any q (q + 1) _ ⟨by omega, by omega⟩ ⟨by omega, by omega⟩).mono ?_
        rintro e w2 ⟨rfl, hb⟩
        unfold retS
        (try simp only)
        have D2 : Below w.heap.size w w2 := Below.trans (by go_grown) (hb.mono (by first | omega | (simp; done) | (simp; omega)))
        have s2 : w1.heap.size < w2.heap.size := by have hs := hb.size; (try simp at hs); omega
        obtain ⟨k1, k2⟩ := bcl hb
        have c2a0 := (k1 (w.heap.size) 0 (by first | omega | (simp; done) | (simp; omega))).trans (by go_cell : _ = some (.int .i64 (0)))
        have g2a0 := (k2 (w.heap.size) 0 (by first | omega | (simp; done) | (simp; omega))).trans (by go_cell : _ = false)
        have c2a1 := (k1 (w.heap.size) 1 (by first | omega | (simp; done) | (simp; omega))).trans (by go_cell : _ = some (.int .i64 (0)))
        have g2a1 := (k2 (w.heap.size) 1 (by first | omega | (simp; done) | (simp; omega))).trans (by go_cell : _ = false)
        have c2b0 := (k1 (w1.heap.size) 0 (by first | omega | (simp; done) | (simp; omega))).trans (by go_cell : _ = some (.int .i64 (q)))
        have g2b0 := (k2 (w1.heap.size) 0 (by first | omega | (simp; done) | (simp; omega))).trans (by go_cell : _ = false)
        have c2b1 := (k1 (w1.heap.size) 1 (by first | omega | (simp; done) | (simp; omega))).trans (by go_cell : _ = some (.int .i64 (q + 1)))
        have g2b1 := (k2 (w1.heap.size) 1 (by first | omega | (simp; done) | (simp; omega))).trans (by go_cell : _ = false)
        clear hb k1 k2 D1
        go_wp2_with fail
        refine (inRange_any (-(q + 1)) (-q) _).mono ?_
        rintro e w3 ⟨he, hb⟩
        rw [← HN.out] at he
        have D3 : Below w.heap.size w w3 := Below.trans (by go_grown) (hb.mono (by first | omega | (simp; done) | (simp; omega)))
        have s3 : w.heap.size < w3.heap.size := by have hs := hb.size; (try simp at hs); omega
        obtain ⟨k1, k2⟩ := bcl hb
        have c30 := (k1 w.heap.size 0 (by first | omega | (simp; done) | (simp; omega))).trans (by go_cell : _ = some (.int .i64 0))
        have g30 := (k2 w.heap.size 0 (by first | omega | (simp; done) | (simp; omega))).trans (by go_cell : _ = false)
        have c31 := (k1 w.heap.size 1 (by first | omega | (simp; done) | (simp; omega))).trans (by go_cell : _ = some (.int .i64 0))
        have g31 := (k2 w.heap.size 1 (by first | omega | (simp; done) | (simp; omega))).trans (by go_cell : _ = false)
        clear hb k1 k2 D2
        have HN2 := Lib.hid he
        clear he HN HSP
        rcases SP with ⟨p, t⟩ | k
        · obtain rfl : e = .returned (.agg #[.int .i64 p, .int .i64 t]) := HN2.out
          go_wp2_with fail
          refine bodyPost_ret (v := .agg #[.int .i64 p, .int .i64 t]) (by simp [results, Try.results80, go_sem, *]) rfl ⟨rfl, by go_grown⟩
        · obtain rfl : e = .panicked [{ v := .iface 26 (.int .i64 k), recovered := false }] := HN2.out
          go_wp2_with fail
          exact ⟨rfl, rfl, by go_grown⟩
      · have h1' : decide (a < 0) = false := decide_eq_false h1
        have h2' : decide (b < 0) = false := decide_eq_false h2
        have HN : Hid (SP = inR ⟨q, q + 1⟩) := Lib.hid (by
          rw [← HSP.out, sc_near hd0 HSC.out hr0 hrd, if_pos hr]
          unfold sgn
          rw [if_neg (by simp [*])])
        go_wp2_with fail
        refine (inRange_any (q) (q + 1) _).mono ?_
        rintro e w3 ⟨he, hb⟩
        rw [← HN.out] at he
        have D3 : Below w.heap.size w w3 := Below.trans (by go_grown) (hb.mono (by first | omega | (simp; done) | (simp; omega)))
        have s3 : w.heap.size < w3.heap.size := by have hs := hb.size; (try simp at hs); omega
        obtain ⟨k1, k2⟩ := bcl hb
        have c30 := (k1 w.heap.size 0 (by first | omega | (simp; done) | (simp; omega))).trans (by go_cell : _ = some (.int .i64 0))
        have g30 := (k2 w.heap.size 0 (by first | omega | (simp; done) | (simp; omega))).trans (by go_cell : _ = false)
        have c31 := (k1 w.heap.size 1 (by first | omega | (simp; done) | (simp; omega))).trans (by go_cell : _ = some (.int .i64 0))
        have g31 := (k2 w.heap.size 1 (by first | omega | (simp; done) | (simp; omega))).trans (by go_cell : _ = false)
        clear hb k1 k2 D1
        have HN2 := Lib.hid he
        clear he HN HSP
        rcases SP with ⟨p, t⟩ | k
        · obtain rfl : e = .returned (.agg #[.int .i64 p, .int .i64 t]) := HN2.out
          go_wp2_with fail
          refine bodyPost_ret (v := .agg #[.int .i64 p, .int .i64 t]) (by simp [results, Try.results80, go_sem, *]) rfl ⟨rfl, by go_grown⟩
        · obtain rfl : e = .panicked [{ v := .iface 26 (.int .i64 k), recovered := false }] := HN2.out
          go_wp2_with fail
          exact ⟨rfl, rfl, by go_grown⟩
  · by_cases h1 : a < 0
    · by_cases h2 : b < 0
      · have h1' : decide (a < 0) = true := decide_eq_true h1
        have h2' : decide (b < 0) = true := decide_eq_true h2
        have HN : Hid (SP = inR ⟨q, q⟩) := Lib.hid (by
          rw [← HSP.out, sc_near hd0 HSC.out hr0 hrd, if_neg hr]
          unfold sgn
          rw [if_neg (by simp [*])])
        have hr' : r ≤ 0 := by omega
        go_wp2_with fail
        refine (inRange_any (q) (q) _).mono ?_
        rintro e w3 ⟨he, hb⟩
        rw [← HN.out] at he
        have D3 : Below w.heap.size w w3 := Below.trans (by go_grown) (hb.mono (by first | omega | (simp; done) | (simp; omega)))
        have s3 : w.heap.size < w3.heap.size := by have hs := hb.size; (try simp at hs); omega
        obtain ⟨k1, k2⟩ := bcl hb
        have c30 := (k1 w.heap.size 0 (by first | omega | (simp; done) | (simp; omega))).trans (by go_cell : _ = some (.int .i64 0))
        have g30 := (k2 w.heap.size 0 (by first | omega | (simp; done) | (simp; omega))).trans (by go_cell : _ = false)
        have c31 := (k1 w.heap.size 1 (by first | omega | (simp; done) | (simp; omega))).trans (by go_cell : _ = some (.int .i64 0))
        have g31 := (k2 w.heap.size 1 (by first | omega | (simp; done) | (simp; omega))).trans (by go_cell : _ = false)
        clear hb k1 k2 D1
        have HN2 := Lib.hid he
        clear he HN HSP
        rcases SP with ⟨p, t⟩ | k
        · obtain rfl : e = .returned (.agg #[.int .i64 p, .int .i64 t]) := HN2.out
          go_wp2_with fail
          refine bodyPost_ret (v := .agg #[.int .i64 p, .int .i64 t]) (by simp [results, Try.results80, go_sem, *]) rfl ⟨rfl, by go_grown⟩
        · obtain rfl : e = .panicked [{ v := .iface 26 (.int .i64 k), recovered := false }] := HN2.out
          go_wp2_with fail
          exact ⟨rfl, rfl, by go_grown⟩
      · have h1' : decide (a < 0) = true := decide_eq_true h1
        have h2' : decide (b < 0) = false := decide_eq_false h2
        have HN : Hid (SP = inR ⟨-q, -q⟩) := Lib.hid (by
          rw [← HSP.out, sc_near hd0 HSC.out hr0 hrd, if_neg hr]
          unfold sgn
          rw [if_pos (by simp [*])]
          rfl)
        have hr' : r ≤ 0 := by omega
        go_wp2_with fail
        refine (negated_any q (q) _ ⟨by omega, by omega⟩ ⟨by omega, by omega⟩).mono ?_
        rintro e w2 ⟨rfl, hb⟩
        unfold retS
        (try simp only)
        have D2 : Below w.heap.size w w2 := Below.trans (by go_grown) (hb.mono (by first | omega | (simp; done) | (simp; omega)))
        have s2 : w1.heap.size < w2.heap.size := by have hs := hb.size; (try simp at hs); omega
        obtain ⟨k1, k2⟩ := bcl hb
        have c2a0 := (k1 (w.heap.size) 0 (by first | omega | (simp; done) | (simp; omega))).trans (by go_cell : _ = some (.int .i64 (0)))
        have g2a0 := (k2 (w.heap.size) 0 (by first | omega | (simp; done) | (simp; omega))).trans (by go_cell : _ = false)
        have c2a1 := (k1 (w.heap.size) 1 (by first | omega | (simp; done) | (simp; omega))).trans (by go_cell : _ = some (.int .i64 (0)))
        have g2a1 := (k2 (w.heap.size) 1 (by first | omega | (simp; done) | (simp; omega))).trans (by go_cell : _ = false)
        have c2b0 := (k1 (w1.heap.size) 0 (by first | omega | (simp; done) | (simp; omega))).trans (by go_cell : _ = some (.int .i64 (q)))
        have g2b0 := (k2 (w1.heap.size) 0 (by first | omega | (simp; done) | (simp; omega))).trans (by go_cell : _ = false)
        have c2b1 := (k1 (w1.heap.size) 1 (by first | omega | (simp; done) | (simp; omega))).trans (by go_cell : _ = some (.int .i64 (q)))
        have g2b1 := (k2 (w1.heap.size) 1 (by first | omega | (simp; done) | (simp; omega))).trans (by go_cell : _ = false)
        clear hb k1 k2 D1
        go_wp2_with fail
        refine (inRange_any (-q) (-q) _).mono ?_
        rintro e w3 ⟨he, hb⟩
        rw [← HN.out] at he
        have D3 : Below w.heap.size w w3 := Below.trans (by go_grown) (hb.mono (by first | omega | (simp; done) | (simp; omega)))
        have s3 : w.heap.size < w3.heap.size := by have hs := hb.size; (try simp at hs); omega
        obtain ⟨k1, k2⟩ := bcl hb
        have c30 := (k1 w.heap.size 0 (by first | omega | (simp; done) | (simp; omega))).trans (by go_cell : _ = some (.int .i64 0))
        have g30 := (k2 w.heap.size 0 (by first | omega | (simp; done) | (simp; omega))).trans (by go_cell : _ = false)
        have c31 := (k1 w.heap.size 1 (by first | omega | (simp; done) | (simp; omega))).trans (by go_cell : _ = some (.int .i64 0))
        have g31 := (k2 w.heap.size 1 (by first | omega | (simp; done) | (simp; omega))).trans (by go_cell : _ = false)
        clear hb k1 k2 D2
        have HN2 := Lib.hid he
        clear he HN HSP
        rcases SP with ⟨p, t⟩ | k
        · obtain rfl : e = .returned (.agg #[.int .i64 p, .int .i64 t]) := HN2.out
          go_wp2_with fail
          refine bodyPost_ret (v := .agg #[.int .i64 p, .int .i64 t]) (by simp [results, Try.results80, go_sem, *]) rfl ⟨rfl, by go_grown⟩
        · obtain rfl : e = .panicked [{ v := .iface 26 (.int .i64 k), recovered := false }] := HN2.out
          go_wp2_with fail
          exact ⟨rfl, rfl, by go_grown⟩
    · by_cases h2 : b < 0
      · have h1' : decide (a < 0) = false := decide_eq_false h1
        have h2' : decide (b < 0) = true := decide_eq_true h2
        have HN : Hid (SP = inR ⟨-q, -q⟩) := Lib.hid (by
          rw [← HSP.out, sc_near hd0 HSC.out hr0 hrd, if_neg hr]
          unfold sgn
          rw [if_pos (by simp [*])]
          rfl)
        have hr' : r ≤ 0 := by omega
        go_wp2_with fail
        refine (negated_any q (q) _ ⟨by omega, by omega⟩ ⟨by omega, by omega⟩).mono ?_
        rintro e w2 ⟨rfl, hb⟩
        unfold retS
        (try simp only)
        have D2 : Below w.heap.size w w2 := Below.trans (by go_grown) (hb.mono (by first | omega | (simp; done) | (simp; omega)))
        have s2 : w1.heap.size < w2.heap.size := by have hs := hb.size; (try simp at hs); omega
        obtain ⟨k1, k2⟩ := bcl hb
        have c2a0 := (k1 (w.heap.size) 0 (by first | omega | (simp; done) | (simp; omega))).trans (by go_cell : _ = some (.int .i64 (0)))
        have g2a0 := (k2 (w.heap.size) 0 (by first | omega | (simp; done) | (simp; omega))).trans (by go_cell : _ = false)
        have c2a1 := (k1 (w.heap.size) 1 (by first | omega | (simp; done) | (simp; omega))).trans (by go_cell : _ = some (.int .i64 (0)))
        have g2a1 := (k2 (w.heap.size) 1 (by first | omega | (simp; done) | (simp; omega))).trans (by go_cell : _ = false)
        have c2b0 := (k1 (w1.heap.size) 0 (by first | omega | (simp; done) | (simp; omega))).trans (by go_cell : _ = some (.int .i64 (q)))
        have g2b0 := (k2 (w1.heap.size) 0 (by first | omega | (simp; done) | (simp; omega))).trans (by go_cell : _ = false)
        have c2b1 := (k1 (w1.heap.size) 1 (by first | omega | (simp; done) | (simp; omega))).trans (by go_cell : _ = some (.int .i64 (q)))
        have g2b1 := (k2 (w1.heap.size) 1 (by first | omega | (simp; done) | (simp; omega))).trans (by go_cell : _ = false)
        clear hb k1 k2 D1
        go_wp2_with fail
        refine (inRange_any (-q) (-q) _).mono ?_
        rintro e w3 ⟨he, hb⟩
        rw [← HN.out] at he
        have D3 : Below w.heap.size w w3 := Below.trans (by go_grown) (hb.mono (by first | omega | (simp; done) | (simp; omega)))
        have s3 : w.heap.size < w3.heap.size := by have hs := hb.size; (try simp at hs); omega
        obtain ⟨k1, k2⟩ := bcl hb
        have c30 := (k1 w.heap.size 0 (by first | omega | (simp; done) | (simp; omega))).trans (by go_cell : _ = some (.int .i64 0))
        have g30 := (k2 w.heap.size 0 (by first | omega | (simp; done) | (simp; omega))).trans (by go_cell : _ = false)
        have c31 := (k1 w.heap.size 1 (by first | omega | (simp; done) | (simp; omega))).trans (by go_cell : _ = some (.int .i64 0))
        have g31 := (k2 w.heap.size 1 (by first | omega | (simp; done) | (simp; omega))).trans (by go_cell : _ = false)
        clear hb k1 k2 D2
        have HN2 := Lib.hid he
        clear he HN HSP
        rcases SP with ⟨p, t⟩ | k
        · obtain rfl : e = .returned (.agg #[.int .i64 p, .int .i64 t]) := HN2.out
          go_wp2_with fail
          refine bodyPost_ret (v := .agg #[.int .i64 p, .int .i64 t]) (by simp [results, Try.results80, go_sem, *]) rfl ⟨rfl, by go_grown⟩
        · obtain rfl : e = .panicked [{ v := .iface 26 (.int .i64 k), recovered := false }] := HN2.out
          go_wp2_with fail
          exact ⟨rfl, rfl, by go_grown⟩
      · have h1' : decide (a < 0) = false := decide_eq_false h1
        have h2' : decide (b < 0) = false := decide_eq_false h2
        have HN : Hid (SP = inR ⟨q, q⟩) := Lib.hid (by
          rw [← HSP.out, sc_near hd0 HSC.out hr0 hrd, if_neg hr]
          unfold sgn
          rw [if_neg (by simp [*])])
        have hr' : r ≤ 0 := by omega
        go_wp2_with fail
        refine (inRange_any (q) (q) _).mono ?_
        rintro e w3 ⟨he, hb⟩
        rw [← HN.out] at he
        have D3 : Below w.heap.size w w3 := Below.trans (by go_grown) (hb.mono (by first | omega | (simp; done) | (simp; omega)))
        have s3 : w.heap.size < w3.heap.size := by have hs := hb.size; (try simp at hs); omega
        obtain ⟨k1, k2⟩ := bcl hb
        have c30 := (k1 w.heap.size 0 (by first | omega | (simp; done) | (simp; omega))).trans (by go_cell : _ = some (.int .i64 0))
        have g30 := (k2 w.heap.size 0 (by first | omega | (simp; done) | (simp; omega))).trans (by go_cell : _ = false)
        have c31 := (k1 w.heap.size 1 (by first | omega | (simp; done) | (simp; omega))).trans (by go_cell : _ = some (.int .i64 0))
        have g31 := (k2 w.heap.size 1 (by first | omega | (simp; done) | (simp; omega))).trans (by go_cell : _ = false)
        clear hb k1 k2 D1
        have HN2 := Lib.hid he
        clear he HN HSP
        rcases SP with ⟨p, t⟩ | k
        · obtain rfl : e = .returned (.agg #[.int .i64 p, .int .i64 t]) := HN2.out
          go_wp2_with fail
          refine bodyPost_ret (v := .agg #[.int .i64 p, .int .i64 t]) (by simp [results, Try.results80, go_sem, *]) rfl ⟨rfl, by go_grown⟩
        · obtain rfl : e = .panicked [{ v := .iface 26 (.int .i64 k), recovered := false }] := HN2.out
          go_wp2_with fail
          exact ⟨rfl, rfl, by go_grown⟩
end Go.Proofs.Ytilclpldfoifkaa
