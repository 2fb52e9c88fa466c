import Derived.Test.YtjodjfllgofkaaaB
namespace Go.Proofs.Ytjodjfllgofkaaa
open Go.RowKit Amp
attribute [local go_sem] ix0 ix1 ix2 ix3 jx0 jx1 jx2 jx3

set_option maxHeartbeats 400000 in
theorem rEven_any (a b c d : Int) (w : World) (h : big 4611686018427387903 ⟨a, b, c, d⟩) :
    Calls Try.prog 104 #[.agg #[.int .i64 a, .int .i64 b, .int .i64 c, .int .i64 d]] w fun e w' => e = .returned (.bool (dvb ⟨a, b, c, d⟩)) ∧ Below w.heap.size w w' := by
  obtain ⟨⟨a1, a2⟩, ⟨b1, b2⟩, ⟨c1, c2⟩, ⟨d1, d2⟩⟩ := h
  simp only at a1 a2 b1 b2 c1 c2 d1 d2
  go_enter Try.func104, Try.ntmps104
  go_wp2
  all_goals
    go_returns
    exact ⟨by simp [dvb, *], by go_grown⟩
set_option maxHeartbeats 400000 in
theorem rTimesRoot_any (a b c d : Int) (w : World) (h : big 4611686018427387903 ⟨a, b, c, d⟩) :
    Calls Try.prog 127 #[.agg #[.int .i64 a, .int .i64 b, .int .i64 c, .int .i64 d]] w fun e w' => e = .returned (.agg #[.int .i64 (b - d), .int .i64 (a + c), .int .i64 (b + d), .int .i64 (c - a)]) ∧ Below w.heap.size w w' := by
  obtain ⟨⟨a1, a2⟩, ⟨b1, b2⟩, ⟨c1, c2⟩, ⟨d1, d2⟩⟩ := h
  simp only at a1 a2 b1 b2 c1 c2 d1 d2
  go_enter Try.func127, Try.ntmps127
  go_wp2
  go_returns
  exact ⟨rfl, by go_grown⟩
set_option maxHeartbeats 1000000 in
theorem rSmall_any (a b c d : Int) (w : World) :
    Calls Try.prog 103 #[.agg #[.int .i64 a, .int .i64 b, .int .i64 c, .int .i64 d]] w fun e w' => e = .returned (.bool (sm ⟨a, b, c, d⟩)) ∧ Below w.heap.size w w' := by
  go_enter Try.func103, Try.ntmps103
  go_wp2
  go_rounds 5
  all_goals
    go_returns
    exact ⟨congrArg (fun x => Ending.returned (.bool x)) (by simp [sm, smI]; first | omega | (simp [*]; done) | (simp [*]; omega)), by go_grown⟩
set_option maxHeartbeats 1000000 in
theorem rValid_any (a b c d k : Int) (w : World) :
    Calls Try.prog 80 #[.agg #[.int .i64 a, .int .i64 b, .int .i64 c, .int .i64 d, .int .i64 k]] w fun e w' => e = .returned (.bool (vld ⟨⟨a, b, c, d⟩, k⟩)) ∧ Below w.heap.size w w' := by
  cases hs : sm ⟨a, b, c, d⟩
  · go_enter Try.func80, Try.ntmps80
    go_wp2_with fail
    refine (rSmall_any _ _ _ _ _).mono ?_
    rintro e w1 ⟨rfl, hb1⟩
    simp only [hs]
    go_wp2_with fail
    go_returns
    exact ⟨by simp [vld, hs], ((Below.refl _ _).alloc (Nat.le_refl _) _).trans (hb1.mono (by simp))⟩
  · have hb := (sm_iff _).1 hs
    have hb' : big 4611686018427387903 ⟨a, b, c, d⟩ := by
      obtain ⟨⟨a1, a2⟩, ⟨b1, b2⟩, ⟨c1, c2⟩, ⟨d1, d2⟩⟩ := hb
      simp only at a1 a2 b1 b2 c1 c2 d1 d2
      exact ⟨⟨by simp only; omega, by simp only; omega⟩, ⟨by simp only; omega, by simp only; omega⟩, ⟨by simp only; omega, by simp only; omega⟩, ⟨by simp only; omega, by simp only; omega⟩⟩
    go_enter Try.func80, Try.ntmps80
    go_wp2_with fail
    have A5 : Has5 (w.alloc (.cells #[.int .i64 a, .int .i64 b, .int .i64 c, .int .i64 d, .int .i64 k] 63)) w.heap.size a b c d k := by refine ⟨⟨?_, ?_, ?_, ?_, ?_⟩, ?_, ?_, ?_, ?_, ?_⟩ <;> go_cell
    refine (rSmall_any _ _ _ _ _).mono ?_
    rintro e w1 ⟨rfl, hb1⟩
    have B5 := A5.keep hb1 (by simp)
    have hsz1 : w.heap.size < w1.heap.size := by have := hb1.size; simp at this; omega
    have hbel : Below w.heap.size w w1 := ((Below.refl _ _).alloc (Nat.le_refl _) _).trans (hb1.mono (by simp))
    clear hb1 A5
    obtain ⟨⟨p0, p1, p2, p3, p4⟩, q0, q1, q2, q3, q4⟩ := B5
    simp only [hs]
    go_wp2_with (go_at_call 104; refine (rEven_any _ _ _ _ _ hb').mono ?_; rintro e w2 ⟨rfl, hb2⟩)
    all_goals
      go_returns
      refine ⟨congrArg (fun x => Ending.returned (.bool x)) ?_, by first | (with_reducible exact hbel) | exact hbel.trans (hb2.mono (by omega))⟩
      simp only [vld, hs]
      cases dvb ⟨a, b, c, d⟩ <;> simp <;> omega
end Go.Proofs.Ytjodjfllgofkaaa

namespace Go.Proofs.Ytjodjfllgofkaaa
open Go.RowKit Amp
attribute [local go_sem] ix0 ix1 ix2 ix3 jx0 jx1 jx2 jx3

def Ret4 (s : C4 × Nat) : Ending := .returned (.tuple #[.agg #[.int .i64 s.1.a, .int .i64 s.1.b, .int .i64 s.1.c, .int .i64 s.1.d], .int .i64 s.2])

set_option maxHeartbeats 1000000 in
theorem rReduced_any (a b c d : Int) (k : Nat) (w : World) (h : big 4611686018427387903 ⟨a, b, c, d⟩) (hk : k ≤ 10000) :
    Calls Try.prog 118 #[.agg #[.int .i64 a, .int .i64 b, .int .i64 c, .int .i64 d], .int .i64 k] w fun e w' => e = Ret4 (red ⟨a, b, c, d⟩ k) ∧ Below w.heap.size w w' := by
  go_enter Try.func118, Try.ntmps118
  go_wp2
  go_loopw [1] (fun kk wr => ∃ (x y z u : Int) (j : Nat), kk = .int .i64 j ∧ j ≤ 10000 ∧ big 4611686018427387903 ⟨x, y, z, u⟩ ∧ red ⟨x, y, z, u⟩ j = red ⟨a, b, c, d⟩ k ∧ w.heap.size + 1 < wr.heap.size ∧ Has4 wr w.heap.size x y z u ∧ Has4 wr (w.heap.size + 1) 0 0 0 0 ∧ Below w.heap.size w wr)
    (fun kk _ => (intOf kk).toNat)
  case atStart => 
    refine ⟨a, b, c, d, k, rfl, hk, h, rfl, ?_, ?_, ?_, ?_⟩
    · simp
    · refine ⟨⟨?_, ?_, ?_, ?_⟩, ?_, ?_, ?_, ?_⟩ <;> go_cell
    · refine ⟨⟨?_, ?_, ?_, ?_⟩, ?_, ?_, ?_, ?_⟩ <;> go_cell
    · go_grown
  case round =>
    obtain ⟨x, y, z, u, j, rfl, hj, hbg, hred, hsz, H4, H5, hbel⟩ := hrel
    have HR := Lib.hid hred
    clear hred
    have P4 := H4
    have P5 := H5
    obtain ⟨⟨c0, c1, c2, c3⟩, f0, f1, f2, f3⟩ := P4
    obtain ⟨⟨g0, g1, g2, g3⟩, e0, e1, e2, e3⟩ := P5
    cases j with
    | zero =>
      go_wp2_with fail
      refine bodyPost_ret (v := .tuple #[.agg #[.int .i64 x, .int .i64 y, .int .i64 z, .int .i64 u], .int .i64 0]) (by simp [results, Try.results118, go_sem, *]) rfl ⟨?_, ?_⟩
      · rw [← HR.out]; rfl
      · go_grown
    | succ j =>
      cases hdv : dvb ⟨x, y, z, u⟩ with
      | false =>
        go_wp2_with fail
        refine (rEven_any _ _ _ _ _ hbg).mono ?_
        rintro e w1 ⟨rfl, hb1⟩
        have hbel1 := hbel.trans (hb1.mono (by omega))
        have hsz1 : w.heap.size + 1 < w1.heap.size := by have := hb1.size; omega
        obtain ⟨⟨c0', c1', c2', c3'⟩, f0', f1', f2', f3'⟩ := H4.keep hb1 (by omega)
        obtain ⟨⟨g0', g1', g2', g3'⟩, e0', e1', e2', e3'⟩ := H5.keep hb1 (by omega)
        clear hb1
        simp only [hdv]
        go_wp2_with fail
        refine bodyPost_ret (v := .tuple #[.agg #[.int .i64 x, .int .i64 y, .int .i64 z, .int .i64 u], .int .i64 ((j : Int) + 1)]) (by simp [results, Try.results118, go_sem, *]) rfl ⟨?_, ?_⟩
        · rw [← HR.out, red_stop hdv]; rfl
        · go_grown
      | true =>
        go_wp2_with fail
        refine (rEven_any _ _ _ _ _ hbg).mono ?_
        rintro e w1 ⟨rfl, hb1⟩
        have hbel1 := hbel.trans (hb1.mono (by omega))
        have hsz1 : w.heap.size + 1 < w1.heap.size := by have := hb1.size; omega
        have H4' := H4.keep hb1 (by omega)
        have H5' := H5.keep hb1 (by omega)
        have P4 := H4'
        obtain ⟨⟨c0', c1', c2', c3'⟩, f0', f1', f2', f3'⟩ := P4
        clear hb1
        simp only [hdv]
        go_wp2_with fail
        refine (rTimesRoot_any _ _ _ _ _ hbg).mono ?_
        rintro e w2 ⟨rfl, hb2⟩
        have hbel2 := hbel1.trans (hb2.mono (by omega))
        have hsz2 : w.heap.size + 1 < w2.heap.size := by have := hb2.size; omega
        obtain ⟨⟨c0'', c1'', c2'', c3''⟩, f0'', f1'', f2'', f3''⟩ := H4'.keep hb2 (by omega)
        have H5'' := H5'.keep hb2 (by omega)
        clear hb2 H4 H4' H5 H5' c0 c1 c2 c3 f0 f1 f2 f3 c0' c1' c2' c3' f0' f1' f2' f3' g0 g1 g2 g3 e0 e1 e2 e3
        obtain ⟨⟨g0, g1, g2, g3⟩, e0, e1, e2, e3⟩ := H5''
        have hlt2 : w.heap.size < w2.heap.size := by omega
        have hne2 : ¬ w.heap.size = w2.heap.size := by omega
        go_wp2_with fail
        go_rounds 5
        have hb4 := half_big hbg
        have hr4 := (red_step hdv).symm.trans HR.out
        have hw : wrap64 ((y - u).tdiv 2) = (y - u).tdiv 2 ∧ wrap64 ((x + z).tdiv 2) = (x + z).tdiv 2 ∧ wrap64 ((y + u).tdiv 2) = (y + u).tdiv 2 ∧ wrap64 ((z - x).tdiv 2) = (z - x).tdiv 2 := by
          obtain ⟨⟨a1, a2⟩, ⟨b1, b2⟩, ⟨c1, c2⟩, ⟨d1, d2⟩⟩ := hbg
          simp only at a1 a2 b1 b2 c1 c2 d1 d2
          exact ⟨w64_half (by omega) (by omega), w64_half (by omega) (by omega), w64_half (by omega) (by omega), w64_half (by omega) (by omega)⟩
        obtain ⟨hw0, hw1, hw2, hw3⟩ := hw
        simp only [hw0, hw1, hw2, hw3]
        clear hw0 hw1 hw2 hw3
        go_roundw
        case rel =>
          refine ⟨(y - u).tdiv 2, (x + z).tdiv 2, (y + u).tdiv 2, (z - x).tdiv 2, j, rfl, by omega, hb4, hr4, ?_, ?_, ?_, ?_⟩
          · simp; omega
          · refine ⟨⟨?_, ?_, ?_, ?_⟩, ?_, ?_, ?_, ?_⟩ <;> go_cell
          · refine ⟨⟨?_, ?_, ?_, ?_⟩, ?_, ?_, ?_, ?_⟩ <;> go_cell
          · go_grown
        case measure => simp [intOf]

set_option maxHeartbeats 1000000 in
theorem rMade_any (a b c d : Int) (k : Nat) (w : World) (h : big 4611686018427387903 ⟨a, b, c, d⟩) (hk : k ≤ 10000) :
    Calls Try.prog 105 #[.agg #[.int .i64 a, .int .i64 b, .int .i64 c, .int .i64 d], .int .i64 k] w fun e w' => e = Ret5 (made ⟨a, b, c, d⟩ k) ∧ Below w.heap.size w w' := by
  go_enter Try.func105, Try.ntmps105
  go_wp2_with fail
  have H4 : Has4 ((w.alloc (.cells #[.int .i64 a, .int .i64 b, .int .i64 c, .int .i64 d] 128)).alloc (.cells #[.int .i64 0, .int .i64 0, .int .i64 0, .int .i64 0, .int .i64 0] 63)) w.heap.size a b c d := by refine ⟨⟨?_, ?_, ?_, ?_⟩, ?_, ?_, ?_, ?_⟩ <;> go_cell
  have H5 : Has5 ((w.alloc (.cells #[.int .i64 a, .int .i64 b, .int .i64 c, .int .i64 d] 128)).alloc (.cells #[.int .i64 0, .int .i64 0, .int .i64 0, .int .i64 0, .int .i64 0] 63)) (w.heap.size + 1) 0 0 0 0 0 := by refine ⟨⟨?_, ?_, ?_, ?_, ?_⟩, ?_, ?_, ?_, ?_, ?_⟩ <;> go_cell
  have hbW : Below w.heap.size w ((w.alloc (.cells #[.int .i64 a, .int .i64 b, .int .i64 c, .int .i64 d] 128)).alloc (.cells #[.int .i64 0, .int .i64 0, .int .i64 0, .int .i64 0, .int .i64 0] 63)) := by go_grown
  refine (rReduced_any _ _ _ _ _ _ h hk).mono ?_
  rintro e w1 ⟨rfl, hb1⟩
  have H4' := H4.keep hb1 (by simp; omega)
  have H5' := H5.keep hb1 (by simp)
  have hsz1 : w.heap.size + 1 < w1.heap.size := by have := hb1.size; simp at this; omega
  have hbel1 := hbW.trans (hb1.mono (by simp; omega))
  have hne1 : ¬ w.heap.size = w1.heap.size := by omega
  have hne2 : ¬ w.heap.size + 1 = w1.heap.size := by omega
  clear H4 H5 hbW hb1
  have E := Lib.hid (show made ⟨a, b, c, d⟩ k = if vld ⟨(red ⟨a, b, c, d⟩ k).1, (red ⟨a, b, c, d⟩ k).2⟩ = true then (⟨(red ⟨a, b, c, d⟩ k).1, (red ⟨a, b, c, d⟩ k).2⟩, 0) else (N0, 4) from rfl)
  unfold Ret4
  generalize red ⟨a, b, c, d⟩ k = r at *
  obtain ⟨⟨x, y, z, u⟩, j⟩ := r
  simp only at E
  obtain ⟨⟨c0, c1, c2, c3⟩, f0, f1, f2, f3⟩ := H4'
  obtain ⟨⟨g0, g1, g2, g3, g4⟩, e0, e1, e2, e3, e4⟩ := H5'
  go_wp2_with fail
  cases hv : vld ⟨⟨x, y, z, u⟩, j⟩
  · refine (rValid_any _ _ _ _ _ _).mono ?_
    rintro e w2 ⟨rfl, hb2⟩
    obtain ⟨⟨p0, p1, p2, p3, p4⟩, _⟩ : Has5 w2 w1.heap.size x y z u j := Has5.keep (by refine ⟨⟨?_, ?_, ?_, ?_, ?_⟩, ?_, ?_, ?_, ?_, ?_⟩ <;> go_cell) hb2 (by simp)
    obtain ⟨⟨q0, q1, q2, q3, q4⟩, r0, r1, r2, r3, r4⟩ : Has5 w2 (w.heap.size + 1) 0 0 0 0 0 := Has5.keep (by refine ⟨⟨?_, ?_, ?_, ?_, ?_⟩, ?_, ?_, ?_, ?_, ?_⟩ <;> go_cell) hb2 (by simp; omega)
    have hbel2 : Below w.heap.size w w2 := Below.trans (by go_grown) (hb2.mono (by simp; omega))
    clear hb2
    simp only [hv]
    go_wp2_with fail
    refine bodyPost_ret (v := .tuple #[.agg #[.int .i64 0, .int .i64 0, .int .i64 0, .int .i64 0, .int .i64 0], .int .i64 4]) (by simp [results, Try.results105, go_sem, *]) rfl ⟨?_, ?_⟩
    · rw [E.out, if_neg (by rw [hv]; exact Bool.false_ne_true)]; rfl
    · go_grown
  · refine (rValid_any _ _ _ _ _ _).mono ?_
    rintro e w2 ⟨rfl, hb2⟩
    obtain ⟨⟨p0, p1, p2, p3, p4⟩, _⟩ : Has5 w2 w1.heap.size x y z u j := Has5.keep (by refine ⟨⟨?_, ?_, ?_, ?_, ?_⟩, ?_, ?_, ?_, ?_, ?_⟩ <;> go_cell) hb2 (by simp)
    obtain ⟨⟨q0, q1, q2, q3, q4⟩, r0, r1, r2, r3, r4⟩ : Has5 w2 (w.heap.size + 1) 0 0 0 0 0 := Has5.keep (by refine ⟨⟨?_, ?_, ?_, ?_, ?_⟩, ?_, ?_, ?_, ?_, ?_⟩ <;> go_cell) hb2 (by simp; omega)
    have hbel2 : Below w.heap.size w w2 := Below.trans (by go_grown) (hb2.mono (by simp; omega))
    clear hb2
    simp only [hv]
    go_wp2_with fail
    refine bodyPost_ret (v := .tuple #[.agg #[.int .i64 x, .int .i64 y, .int .i64 z, .int .i64 u, .int .i64 j], .int .i64 0]) (by simp [results, Try.results105, go_sem, *]) rfl ⟨?_, ?_⟩
    · rw [E.out, if_pos hv]; rfl
    · go_grown
end Go.Proofs.Ytjodjfllgofkaaa

namespace Go
section
variable {P : Program} (w : World)
theorem run_equalIn_arr4 (d : Nat) {t e : TypeId} {k : IntKind} (a0 a1 a2 a3 b0 b1 b2 b3 : Int) (ht : P.underlying t = some (.array 4 e)) (he : P.underlying e = some (.int k)) (hs : ∀ w, (sizeOf e).run P w = .ok 1 w) :
    (Op.equalIn (d + 2) t (.agg #[.int k a0, .int k a1, .int k a2, .int k a3]) (.agg #[.int k b0, .int k b1, .int k b2, .int k b3])).run P w = .ok (a0 == b0 && (a1 == b1 && (a2 == b2 && a3 == b3))) w := by
  rw [Op.equalIn]
  simp only [Sem.run_bind, run_underlying ht, Result.andThen_ok, hs]
  simp only [Std.Legacy.Range.forIn_eq_forIn_range', Std.Legacy.Range.size, List.range', List.forIn_cons, List.forIn_nil, Sem.run_bind, Nat.mul_one]
  have ha : ∀ w, (isAgg e).run P w = .ok false w := fun w => by simp [isAgg, run_underlying he]
  have hq : ∀ w a b, (Op.equalIn (d + 1) e (.int k a) (.int k b)).run P w = .ok (a == b) w := fun w a b => run_equalIn_int w d e k k a b he
  cases h0 : a0 == b0 <;> cases h1 : a1 == b1 <;> cases h2 : a2 == b2 <;> cases h3 : a3 == b3 <;> simp [ha, hq, h0, h1, h2, h3, go_sem]
end
end Go
namespace Go.Proofs.Ytjodjfllgofkaaa
theorem map_two {α β : Type} {F : α → β} {l : List α} {a b : β} (h : l.map F = [a, b]) : ∃ f g, l = [f, g] ∧ F f = a ∧ F g = b := by
  cases l with
  | nil => simp at h
  | cons f l =>
    cases l with
    | nil => simp at h
    | cons g l =>
      cases l with
      | nil => simp at h; exact ⟨f, g, rfl, h.1, h.2⟩
      | cons x l => simp at h
theorem run_eqNum (a0 a1 a2 a3 a4 b0 b1 b2 b3 b4 : Int) (w : World) :
    (binOp .eql 63 (.agg #[.int .i64 a0, .int .i64 a1, .int .i64 a2, .int .i64 a3, .int .i64 a4]) (.agg #[.int .i64 b0, .int .i64 b1, .int .i64 b2, .int .i64 b3, .int .i64 b4])).run Try.prog w = .ok (.bool (a0 == b0 && (a1 == b1 && (a2 == b2 && (a3 == b3 && a4 == b4))))) w := by
  have h4 : ∀ w, (Op.equalIn 9999 39 (.agg #[.int .i64 a0, .int .i64 a1, .int .i64 a2, .int .i64 a3]) (.agg #[.int .i64 b0, .int .i64 b1, .int .i64 b2, .int .i64 b3])).run Try.prog w = .ok (a0 == b0 && (a1 == b1 && (a2 == b2 && a3 == b3))) w :=
    fun w => run_equalIn_arr4 w 9997 a0 a1 a2 a3 b0 b1 b2 b3 Try.underlying39 Try.underlying3 (fun w => by kernel_rfl)
  have h5 : ∀ w, (Op.equalIn 9999 3 (.int .i64 a4) (.int .i64 b4)).run Try.prog w = .ok (a4 == b4) w := fun w => run_equalIn_int w 9998 3 .i64 .i64 a4 b4 Try.underlying3
  rw [run_eql_struct, run_equalIn_agg w 9999 63 _ _ (by kernel_rfl) (by kernel_rfl)]
  have hf : ((Try.prog.fieldsOf 63).toList.map fun f => (f.name, f.type, f.offset)) = [("A", 39, 0), ("K", 3, 4)] := by kernel_rfl
  obtain ⟨f, g, hl, hf1, hg1⟩ := map_two hf
  simp only [Prod.mk.injEq] at hf1 hg1
  obtain ⟨f1, f2, f3⟩ := hf1
  obtain ⟨g1, g2, g3⟩ := hg1
  have hp : ∀ w (x0 x1 x2 x3 x4 : Value), (part 39 #[x0, x1, x2, x3, x4] 0).run Try.prog w = .ok (.agg #[x0, x1, x2, x3]) w := fun _ _ _ _ _ _ => by kernel_rfl
  have hk : ∀ w (x0 x1 x2 x3 x4 : Value), (part 3 #[x0, x1, x2, x3, x4] 4).run Try.prog w = .ok x4 w := fun _ _ _ _ _ _ => by kernel_rfl
  rw [hl, Op.eqFields, f1, f2, f3]
  simp only [ne_eq, show ¬ ("A" : String) = "_" from by decide, not_false_eq_true, if_true, Sem.run_bind, hp, h4, Result.andThen_ok]
  cases hh : (a0 == b0 && (a1 == b1 && (a2 == b2 && a3 == b3)))
  · simp at hh ⊢
    exact fun c0 c1 c2 c3 => absurd c3 (hh c0 c1 c2)
  · simp only [Bool.not_true, Bool.false_eq_true, if_false]
    rw [Op.eqFields, g1, g2, g3]
    simp only [ne_eq, show ¬ ("K" : String) = "_" from by decide, not_false_eq_true, if_true, Sem.run_bind, hk, h5, Result.andThen_ok]
    simp only [Bool.and_eq_true] at hh
    rw [hh.1, hh.2.1, hh.2.2.1, hh.2.2.2]
    cases a4 == b4 <;> simp [Op.eqFields]
theorem run_neNum (a0 a1 a2 a3 a4 b0 b1 b2 b3 b4 : Int) (w : World) :
    (binOp .neq 63 (.agg #[.int .i64 a0, .int .i64 a1, .int .i64 a2, .int .i64 a3, .int .i64 a4]) (.agg #[.int .i64 b0, .int .i64 b1, .int .i64 b2, .int .i64 b3, .int .i64 b4])).run Try.prog w = .ok (.bool (!(a0 == b0 && (a1 == b1 && (a2 == b2 && (a3 == b3 && a4 == b4)))))) w := by
  have h := run_eqNum a0 a1 a2 a3 a4 b0 b1 b2 b3 b4 w
  rw [run_eql_struct] at h
  rw [run_neq_struct]
  generalize (Op.equalIn 10000 63 (.agg #[.int .i64 a0, .int .i64 a1, .int .i64 a2, .int .i64 a3, .int .i64 a4]) (.agg #[.int .i64 b0, .int .i64 b1, .int .i64 b2, .int .i64 b3, .int .i64 b4])).run Try.prog w = r at *
  cases r with
  | ok b w1 =>
    simp only [Result.andThen_ok, Result.ok.injEq, Value.bool.injEq] at h ⊢
    rw [h.1, h.2]; exact ⟨rfl, rfl⟩
  | halt x w1 => simp [Result.andThen] at h
end Go.Proofs.Ytjodjfllgofkaaa
