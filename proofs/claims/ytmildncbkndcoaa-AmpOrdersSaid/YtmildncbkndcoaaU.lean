import Derived.Test.YtmildncbkndcoaaT
namespace Amp
def halveS (z : Nm) (n : Int) : Nm × Int := if vld z = true then (if 0 ≤ n ∧ n ≤ 100 then made z.v (z.k + n).toNat else (N0, 2)) else (N0, 10)
theorem halveS_bad {z : Nm} {n : Int} (h : vld z = false) : halveS z n = (N0, 10) := by unfold halveS; rw [h]; rfl
theorem halveS_arg {z : Nm} {n : Int} (h : vld z = true) (hn : ¬ (0 ≤ n ∧ n ≤ 100)) : halveS z n = (N0, 2) := by unfold halveS; rw [if_pos h, if_neg hn]
theorem halveS_ok {z : Nm} {n : Int} (h : vld z = true) (hn : 0 ≤ n ∧ n ≤ 100) : halveS z n = made z.v (z.k + n).toNat := by unfold halveS; rw [if_pos h, if_pos hn]
end Amp
namespace Go.Proofs.Ytmildncbkndcoaa
open Go.RowKit Amp
attribute [local go_sem] ix0 ix1 ix2 ix3 jx0 jx1 jx2 jx3

set_option maxHeartbeats 1000000 in
theorem Neg_any (a b c d k : Int) (w : World) :
    Calls Try.prog 32 #[.agg #[.int .i64 a, .int .i64 b, .int .i64 c, .int .i64 d, .int .i64 k]] w fun e w' => e = Ret5 (chgS ⟨⟨a, b, c, d⟩, k⟩ (neg)) ∧ Below w.heap.size w w' := by
  obtain ⟨x', y', z', u', v', er, HM⟩ := res5 (chgS ⟨⟨a, b, c, d⟩, k⟩ (neg))
  go_enter Try.func32, Try.ntmps32
  go_wp2_with fail
  refine (changed_neg _ _ _ _ _ _).mono ?_
  rintro e w1 ⟨rfl, hb1⟩
  obtain ⟨⟨q0, q1, q2, q3, q4⟩, r0, r1, r2, r3, r4⟩ : Has5 w1 (w.heap.size + 1) 0 0 0 0 0 := Has5.keep (by refine ⟨⟨?_, ?_, ?_, ?_, ?_⟩, ?_, ?_, ?_, ?_, ?_⟩ <;> go_cell) hb1 (by first | omega | (simp; done) | (simp; omega))
  have D1 : Below w.heap.size w w1 := Below.trans (by go_grown) (hb1.mono (by first | omega | (simp; done) | (simp; omega)))
  clear hb1
  rw [HM.out]
  unfold Ret5
  (try simp only)
  go_wp2_with fail
  refine bodyPost_ret (v := .tuple #[.agg #[.int .i64 x', .int .i64 y', .int .i64 z', .int .i64 u', .int .i64 v'], .int .i64 er]) (by simp [results, Try.results32, go_sem, *]) rfl ⟨by rw [HM.out]; rfl, by go_grown⟩

set_option maxHeartbeats 1000000 in
theorem Conj_any (a b c d k : Int) (w : World) :
    Calls Try.prog 34 #[.agg #[.int .i64 a, .int .i64 b, .int .i64 c, .int .i64 d, .int .i64 k]] w fun e w' => e = Ret5 (chgS ⟨⟨a, b, c, d⟩, k⟩ (conj)) ∧ Below w.heap.size w w' := by
  obtain ⟨x', y', z', u', v', er, HM⟩ := res5 (chgS ⟨⟨a, b, c, d⟩, k⟩ (conj))
  go_enter Try.func34, Try.ntmps34
  go_wp2_with fail
  refine (changed_conj _ _ _ _ _ _).mono ?_
  rintro e w1 ⟨rfl, hb1⟩
  obtain ⟨⟨q0, q1, q2, q3, q4⟩, r0, r1, r2, r3, r4⟩ : Has5 w1 (w.heap.size + 1) 0 0 0 0 0 := Has5.keep (by refine ⟨⟨?_, ?_, ?_, ?_, ?_⟩, ?_, ?_, ?_, ?_, ?_⟩ <;> go_cell) hb1 (by first | omega | (simp; done) | (simp; omega))
  have D1 : Below w.heap.size w w1 := Below.trans (by go_grown) (hb1.mono (by first | omega | (simp; done) | (simp; omega)))
  clear hb1
  rw [HM.out]
  unfold Ret5
  (try simp only)
  go_wp2_with fail
  refine bodyPost_ret (v := .tuple #[.agg #[.int .i64 x', .int .i64 y', .int .i64 z', .int .i64 u', .int .i64 v'], .int .i64 er]) (by simp [results, Try.results34, go_sem, *]) rfl ⟨by rw [HM.out]; rfl, by go_grown⟩

set_option maxHeartbeats 1000000 in
theorem Flip_any (a b c d k : Int) (w : World) :
    Calls Try.prog 36 #[.agg #[.int .i64 a, .int .i64 b, .int .i64 c, .int .i64 d, .int .i64 k]] w fun e w' => e = Ret5 (chgS ⟨⟨a, b, c, d⟩, k⟩ (fun x => flipV x k)) ∧ Below w.heap.size w w' := by
  obtain ⟨x', y', z', u', v', er, HM⟩ := res5 (chgS ⟨⟨a, b, c, d⟩, k⟩ (fun x => flipV x k))
  go_enter Try.func36, Try.ntmps36
  go_wp2_with fail
  refine (changed_flip _ _ _ _ _ _ _ (by go_cell)).mono ?_
  rintro e w1 ⟨rfl, hb1⟩
  obtain ⟨⟨q0, q1, q2, q3, q4⟩, r0, r1, r2, r3, r4⟩ : Has5 w1 (w.heap.size + 1) 0 0 0 0 0 := Has5.keep (by refine ⟨⟨?_, ?_, ?_, ?_, ?_⟩, ?_, ?_, ?_, ?_, ?_⟩ <;> go_cell) hb1 (by first | omega | (simp; done) | (simp; omega))
  have D1 : Below w.heap.size w w1 := Below.trans (by go_grown) (hb1.mono (by first | omega | (simp; done) | (simp; omega)))
  clear hb1
  rw [HM.out]
  unfold Ret5
  (try simp only)
  go_wp2_with fail
  refine bodyPost_ret (v := .tuple #[.agg #[.int .i64 x', .int .i64 y', .int .i64 z', .int .i64 u', .int .i64 v'], .int .i64 er]) (by simp [results, Try.results36, go_sem, *]) rfl ⟨by rw [HM.out]; rfl, by go_grown⟩

set_option maxHeartbeats 1000000 in
theorem Turn_any (a b c d k : Int) (n : Int) (w : World) :
    Calls Try.prog 38 #[.agg #[.int .i64 a, .int .i64 b, .int .i64 c, .int .i64 d, .int .i64 k], .int .i64 n] w fun e w' => e = Ret5 (chgS ⟨⟨a, b, c, d⟩, k⟩ (fun x => rotn (n % 8).toNat x)) ∧ Below w.heap.size w w' := by
  obtain ⟨x', y', z', u', v', er, HM⟩ := res5 (chgS ⟨⟨a, b, c, d⟩, k⟩ (fun x => rotn (n % 8).toNat x))
  go_enter Try.func38, Try.ntmps38
  go_wp2_with fail
  refine (changed_turn _ _ _ _ _ (w.heap.size + 1) n _ (by rw [World.cell?_alloc_lt _ _ _ (by simp)]; simp)).mono ?_
  rintro e w1 ⟨rfl, hb1⟩
  obtain ⟨⟨q0, q1, q2, q3, q4⟩, r0, r1, r2, r3, r4⟩ : Has5 w1 (w.heap.size + 1 + 1) 0 0 0 0 0 := Has5.keep (by refine ⟨⟨?_, ?_, ?_, ?_, ?_⟩, ?_, ?_, ?_, ?_, ?_⟩ <;> go_cell) hb1 (by first | omega | (simp; done) | (simp; omega))
  have D1 : Below w.heap.size w w1 := Below.trans (by go_grown) (hb1.mono (by first | omega | (simp; done) | (simp; omega)))
  clear hb1
  rw [HM.out]
  unfold Ret5
  (try simp only)
  go_wp2_with fail
  refine bodyPost_ret (v := .tuple #[.agg #[.int .i64 x', .int .i64 y', .int .i64 z', .int .i64 u', .int .i64 v'], .int .i64 er]) (by simp [results, Try.results38, go_sem, *]) rfl ⟨by rw [HM.out]; rfl, by go_grown⟩

set_option maxHeartbeats 1000000 in
theorem Halve_any (a b c d k n : Int) (w : World) :
    Calls Try.prog 40 #[.agg #[.int .i64 a, .int .i64 b, .int .i64 c, .int .i64 d, .int .i64 k], .int .i64 n] w fun e w' => e = Ret5 (halveS ⟨⟨a, b, c, d⟩, k⟩ n) ∧ Below w.heap.size w w' := by
  cases hv : vld ⟨⟨a, b, c, d⟩, k⟩
  · go_enter Try.func40, Try.ntmps40
    go_wp2_with fail
    refine (check1 _ _ ⟨⟨a, b, c, d⟩, k⟩ _ (by refine ⟨?_, ?_, ?_, ?_, ?_⟩ <;> go_cell)).mono ?_
    rintro e w1 ⟨rfl, hb1⟩
    obtain ⟨⟨q0, q1, q2, q3, q4⟩, r0, r1, r2, r3, r4⟩ : Has5 w1 (w.heap.size + 1) 0 0 0 0 0 := Has5.keep (by refine ⟨⟨?_, ?_, ?_, ?_, ?_⟩, ?_, ?_, ?_, ?_, ?_⟩ <;> go_cell) hb1 (by first | omega | (simp; done) | (simp; omega))
    have D1 : Below w.heap.size w w1 := Below.trans (by go_grown) (hb1.mono (by first | omega | (simp; done) | (simp; omega)))
    clear hb1
    rw [chk1_bad hv]
    go_wp2_with fail
    refine bodyPost_ret (v := .tuple #[.agg #[.int .i64 0, .int .i64 0, .int .i64 0, .int .i64 0, .int .i64 0], .int .i64 10]) (by simp [results, Try.results40, go_sem, *]) rfl ⟨?_, by go_grown⟩
    rw [halveS_bad hv]; rfl
  · have HX := vld_sm hv
    have hk0 := (vld_k hv).1
    have hk1 := (vld_k hv).2
    simp only at hk0 hk1 HX
    have HX' : big 4611686018427387903 ⟨a, b, c, d⟩ := big_mono HX (by omega)
    have HA := Lib.hid (fun h => halveS_arg (n := n) hv h)
    have HO := Lib.hid (fun h => halveS_ok (n := n) hv h)
    go_enter Try.func40, Try.ntmps40
    go_wp2_with fail
    refine (check1 _ _ ⟨⟨a, b, c, d⟩, k⟩ _ (by refine ⟨?_, ?_, ?_, ?_, ?_⟩ <;> go_cell)).mono ?_
    rintro e w1 ⟨rfl, hb1⟩
    have A1 : Has5 w1 w.heap.size a b c d k := Has5.keep (by refine ⟨⟨?_, ?_, ?_, ?_, ?_⟩, ?_, ?_, ?_, ?_, ?_⟩ <;> go_cell) hb1 (by first | omega | (simp; done) | (simp; omega))
    have C1 : Has5 w1 (w.heap.size + 1) 0 0 0 0 0 := Has5.keep (by refine ⟨⟨?_, ?_, ?_, ?_, ?_⟩, ?_, ?_, ?_, ?_, ?_⟩ <;> go_cell) hb1 (by first | omega | (simp; done) | (simp; omega))
    have D1 : Below w.heap.size w w1 := Below.trans (by go_grown) (hb1.mono (by first | omega | (simp; done) | (simp; omega)))
    have s1 : w.heap.size + 2 ≤ w1.heap.size := by have := hb1.size; simp at this; omega
    clear hb1
    rw [chk1_ok hv]
    clear hv
    obtain ⟨⟨c0, c1, c2, c3, c4⟩, f0, f1, f2, f3, f4⟩ := A1
    by_cases hn : 0 ≤ n ∧ n ≤ 100
    · obtain ⟨m, hm⟩ : ∃ m : Nat, Hid (k + n = (m : Int)) := ⟨(k + n).toNat, by show _ = _; omega⟩
      have hm2 : m ≤ 10000 := by have := hm.out; omega
      have HR := HO.out hn
      rw [show (⟨⟨a, b, c, d⟩, k⟩ : Nm).k + n = (m : Int) from hm.out, Int.toNat_natCast] at HR
      have HR := Lib.hid HR
      obtain ⟨hn0, hn1⟩ := hn
      obtain ⟨x', y', z', u', v', er, HM⟩ := res5 (made ⟨a, b, c, d⟩ m)
      go_wp2_with fail
      rw [hm.out]
      refine (reduced_any _ _ _ _ _ _ HX' hm2).mono ?_
      rintro e w2 ⟨rfl, hb2⟩
      obtain ⟨⟨q0, q1, q2, q3, q4⟩, r0, r1, r2, r3, r4⟩ := C1.keep hb2 (by omega)
      have D2 : Below w.heap.size w w2 := D1.trans (hb2.mono (by omega))
      clear hb2 C1 D1 c0 c1 c2 c3 c4 f0 f1 f2 f3 f4
      rw [HM.out]
      unfold Ret5
      (try simp only)
      go_wp2_with fail
      refine bodyPost_ret (v := .tuple #[.agg #[.int .i64 x', .int .i64 y', .int .i64 z', .int .i64 u', .int .i64 v'], .int .i64 er]) (by simp [results, Try.results40, go_sem, *]) rfl ⟨?_, by go_grown⟩
      rw [HR.out, HM.out]; rfl
    · have HR := Lib.hid (HA.out hn)
      obtain ⟨⟨q0, q1, q2, q3, q4⟩, r0, r1, r2, r3, r4⟩ := C1
      have hn' : n < 0 ∨ 100 < n := by omega
      clear hn
      rcases hn' with hn | hn
      all_goals
        go_wp2_with fail
        refine bodyPost_ret (v := .tuple #[.agg #[.int .i64 0, .int .i64 0, .int .i64 0, .int .i64 0, .int .i64 0], .int .i64 2]) (by simp [results, Try.results40, go_sem, *]) rfl ⟨?_, by go_grown⟩
        rw [HR.out]; rfl
end Go.Proofs.Ytmildncbkndcoaa
