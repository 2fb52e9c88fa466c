import Derived.Test.YtmildncbkndcoaaJ
namespace Go.Proofs.Ytmildncbkndcoaa
open Go.RowKit Amp
attribute [local go_sem] ix0 ix1 ix2 ix3 jx0 jx1 jx2 jx3
set_option maxHeartbeats 1000000 in
theorem raised_any (a b c d : Int) (k m : Nat) (w : World) (h : big 1000000000 ⟨a, b, c, d⟩) (hk : k ≤ m) (hm : m ≤ 40) :
    Calls Try.prog 75 #[.agg #[.int .i64 a, .int .i64 b, .int .i64 c, .int .i64 d, .int .i64 k], .int .i64 m] w fun e w' => e = .returned (.agg #[.int .i64 (trn (m - k) ⟨a, b, c, d⟩).a, .int .i64 (trn (m - k) ⟨a, b, c, d⟩).b, .int .i64 (trn (m - k) ⟨a, b, c, d⟩).c, .int .i64 (trn (m - k) ⟨a, b, c, d⟩).d]) ∧ Below w.heap.size w w' := by
  go_enter Try.func75, Try.ntmps75
  go_wp2_with fail
  go_loopw [6] (fun kk wr => ∃ (x y z u : Int) (j : Nat), kk = .int .i64 j ∧ k ≤ j ∧ j ≤ m ∧ trn (j - k) ⟨a, b, c, d⟩ = ⟨x, y, z, u⟩ ∧ w.heap.size + 2 < wr.heap.size ∧ Has4 wr (w.heap.size + 1 + 1) x y z u ∧ Has4 wr (w.heap.size + 1) 0 0 0 0 ∧ Below w.heap.size w wr)
    (fun kk _ => m - (intOf kk).toNat)
  case atStart =>
    refine ⟨a, b, c, d, k, rfl, by omega, hk, by rw [Nat.sub_self]; rfl, ?_, ?_, ?_, ?_⟩
    · simp
    · refine ⟨⟨?_, ?_, ?_, ?_⟩, ?_, ?_, ?_, ?_⟩ <;> go_cell
    · refine ⟨⟨?_, ?_, ?_, ?_⟩, ?_, ?_, ?_, ?_⟩ <;> go_cell
    · go_grown
  case round =>
    obtain ⟨x, y, z, u, j, rfl, hj1, hj2, htr, hsz, H4, H5, hbel⟩ := hrel
    have bx := trn_bd (n := j - k) h (by omega)
    rw [htr] at bx
    have HT := Lib.hid htr
    clear htr
    have P4 := H4
    have P5 := H5
    obtain ⟨⟨c0, c1, c2, c3⟩, f0, f1, f2, f3⟩ := P4
    obtain ⟨⟨g0, g1, g2, g3⟩, e0, e1, e2, e3⟩ := P5
    by_cases hlt : j < m
    · go_wp2_with fail
      refine (rTimesRoot_any _ _ _ _ _ (big_mono bx (by omega))).mono ?_
      rintro e w2 ⟨rfl, hb2⟩
      have hbel2 := hbel.trans (hb2.mono (by omega))
      have hsz2 : w.heap.size + 2 < w2.heap.size := by have := hb2.size; omega
      obtain ⟨⟨c0', c1', c2', c3'⟩, f0', f1', f2', f3'⟩ := H4.keep hb2 (by omega)
      have H5' := H5.keep hb2 (by omega)
      clear hb2 H4 H5 c0 c1 c2 c3 f0 f1 f2 f3 g0 g1 g2 g3 e0 e1 e2 e3
      obtain ⟨⟨g0, g1, g2, g3⟩, e0, e1, e2, e3⟩ := H5'
      go_wp2_with fail
      go_roundw
      case rel =>
        refine ⟨y - u, x + z, y + u, z - x, j + 1, by go_num, by omega, by omega, ?_, ?_, ?_, ?_, ?_⟩
        · rw [show j + 1 - k = (j - k) + 1 from by omega, trn_succ, HT.out]; rfl
        · simp; omega
        · refine ⟨⟨?_, ?_, ?_, ?_⟩, ?_, ?_, ?_, ?_⟩ <;> go_cell
        · refine ⟨⟨?_, ?_, ?_, ?_⟩, ?_, ?_, ?_, ?_⟩ <;> go_cell
        · go_grown
      case measure => simp [intOf]; omega
    · go_wp2_with fail
      refine bodyPost_ret (v := .agg #[.int .i64 x, .int .i64 y, .int .i64 z, .int .i64 u]) (by simp [results, Try.results75, go_sem, *]) rfl ⟨?_, by go_grown⟩
      rw [show m - k = j - k from by omega, HT.out]
end Go.Proofs.Ytmildncbkndcoaa
