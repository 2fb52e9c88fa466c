import Derived.Test.YtjodjfllgofkaaaOf
import Derived.Test.YtjodjfllgofkaaaY
import Derived.Deep.AppendLies
namespace Amp
/-- The sum of the products of two lists, one after the other. -/
def rowS (x y : Nat → Nm) : Nat → Nm × Int
  | 0 => (N0, 0)
  | k + 1 => if (rowS x y k).2 = 0 then (if (mulS (x k) (y k)).2 = 0 then (if (addS (rowS x y k).1 (mulS (x k) (y k)).1).2 = 0 then addS (rowS x y k).1 (mulS (x k) (y k)).1 else (N0, (addS (rowS x y k).1 (mulS (x k) (y k)).1).2)) else (N0, (mulS (x k) (y k)).2)) else rowS x y k
theorem rowS_stay {x y : Nat → Nm} {k : Nat} (h : (rowS x y k).2 ≠ 0) : ∀ n, k ≤ n → rowS x y n = rowS x y k := by
  intro n
  induction n with
  | zero => intro hk; obtain rfl : k = 0 := (by omega); rfl
  | succ n ih =>
    intro hk
    by_cases e : k = n + 1
    · subst e; rfl
    · have := ih (by omega)
      rw [rowS, this, if_neg h]
theorem rowS_mul {x y : Nat → Nm} {k : Nat} {s p : Nm} {e : Int} (h : rowS x y k = (s, 0)) (hm : mulS (x k) (y k) = (p, e)) (he : e ≠ 0) : rowS x y (k + 1) = (N0, e) := by
  rw [rowS, h, if_pos rfl, hm, if_neg he]
theorem rowS_add {x y : Nat → Nm} {k : Nat} {s p t : Nm} {e : Int} (h : rowS x y k = (s, 0)) (hm : mulS (x k) (y k) = (p, 0)) (ha : addS s p = (t, e)) (he : e ≠ 0) : rowS x y (k + 1) = (N0, e) := by
  rw [rowS, h, if_pos rfl, hm, if_pos rfl]
  simp only [ha]
  rw [if_neg he]
theorem rowS_go {x y : Nat → Nm} {k : Nat} {s p t : Nm} (h : rowS x y k = (s, 0)) (hm : mulS (x k) (y k) = (p, 0)) (ha : addS s p = (t, 0)) : rowS x y (k + 1) = (t, 0) := by
  rw [rowS, h, if_pos rfl, hm, if_pos rfl]
  simp only [ha, if_true]
end Amp
namespace Go.Proofs.Ytjodjfllgofkaaa
open Go.RowKit Amp
attribute [local go_sem] ix0 ix1 ix2 ix3 jx0 jx1 jx2 jx3
attribute [local go_sem high] run_eqNum run_neNum

set_option maxRecDepth 100000 in
set_option maxHeartbeats 4000000 in
theorem rRow_any (n i g cap dap : Nat) (bo : Option Addr) (f y : Nat → Nm) (w : World) (hn : n ≤ 6) (hi : i < n) (hx : Nums w (some ⟨g, 0, none⟩) (n * n) f) (hy : Nums w bo n y) :
    Calls Try.prog 46 #[.agg #[.int .i64 n, .slice (some ⟨g, 0, none⟩) (n * n) cap], .int .i64 i, .slice bo n dap] w fun e w' => e = Ret5 (rowS (fun t => f (i * n + t)) y n) ∧ Below w.heap.size w w' := by
  have HX := Lib.hid hx
  have HY := Lib.hid hy
  obtain ⟨X, hX⟩ : ∃ X : Nat → Nm, Hid (X = fun t => f (i * n + t)) := ⟨_, rfl⟩
  rw [← hX.out]
  have hn' : (n : Int) ≤ 6 := by omega
  have hi' : (i : Int) ≤ 6 := by omega
  clear hx hy
  go_enter Try.func46, Try.ntmps46
  go_wp2_with fail
  refine (none_x _).mono ?_
  rintro e w' ⟨rfl, rfl⟩
  go_wp2_with fail
  go_loopw [9, 10, 11, 15] (fun _ _ _ iv wr => ∃ (k : Nat) (s0 s1 s2 s3 s4 : Int), iv = .int .i64 k ∧ k ≤ n ∧ Hid (rowS X y k = (⟨⟨s0, s1, s2, s3⟩, s4⟩, 0)) ∧ Has5 wr (w.heap.size + 1 + 1 + 1) s0 s1 s2 s3 s4 ∧ Has5 wr (w.heap.size + 1) 0 0 0 0 0 ∧ wr.cell? ⟨w.heap.size, 0, none⟩ = some (.int .i64 n) ∧ wr.cell? ⟨w.heap.size, 1, none⟩ = some (.slice (some ⟨g, 0, none⟩) (n * n) cap) ∧ Below w.heap.size w wr ∧ w.heap.size + 1 + 1 + 1 < wr.heap.size) (fun _ _ _ iv _ => n - (intOf iv).toNat)
  case atStart => exact ⟨0, 0, 0, 0, 0, 0, rfl, by omega, Lib.hid rfl, by refine ⟨⟨?_, ?_, ?_, ?_, ?_⟩, ?_, ?_, ?_, ?_, ?_⟩ <;> go_cell, by refine ⟨⟨?_, ?_, ?_, ?_, ?_⟩, ?_, ?_, ?_, ?_, ?_⟩ <;> go_cell, by go_cell, by go_cell, by go_grown, by simp⟩
  case round =>
    obtain ⟨k, s0, s1, s2, s3, s4, rfl, hk, HRS, hS, hR, b0, b1, hbel, hsz⟩ := hrel
    have hsz1 : w.heap.size + 1 < wr.heap.size := by omega
    have hsz2 : w.heap.size < wr.heap.size := by omega
    by_cases hlt : k < n
    · have hlt' : (k : Int) < (n : Int) := by omega
      have hlt0 : (0 : Int) ≤ (k : Int) := by omega
      have hmn : i * n + k < n * n := by
        have e1 : (i + 1) * n ≤ n * n := Nat.mul_le_mul_right n (by omega)
        rw [Nat.succ_mul] at e1; omega
      have h36 : n * n ≤ 36 := Nat.mul_le_mul hn hn
      obtain ⟨c, hc⟩ : ∃ c, Hid (i * n = c) := ⟨_, rfl⟩
      obtain ⟨m, hm⟩ : ∃ m, Hid (c + k = m) := ⟨_, rfl⟩
      have hmm : i * n + k = m := by rw [hc.out, hm.out]
      rw [hmm] at hmn
      obtain ⟨b, o, he, hcell⟩ := (Nums.keep HX.out hbel) (by omega)
      obtain ⟨rfl, rfl⟩ : g = b ∧ 0 = o := by
        simp only [Option.some.injEq, Addr.mk.injEq] at he
        exact ⟨he.1, he.2.1⟩
      obtain ⟨b', o', rfl, hcell'⟩ := (Nums.keep HY.out hbel) (by omega)
      obtain ⟨p0, p1, p2, p3, p4, pe, HP⟩ := res5 (X k, 0)
      obtain ⟨q0, q1, q2, q3, q4, qe, HQ⟩ := res5 (y k, 0)
      have HPZ : X k = ⟨⟨p0, p1, p2, p3⟩, p4⟩ := congrArg Prod.fst HP.out
      have HQZ : y k = ⟨⟨q0, q1, q2, q3⟩, q4⟩ := congrArg Prod.fst HQ.out
      have hz := hcell m hmn
      have hz' := hcell' k hlt
      rw [show f m = X k by rw [hX.out, ← hmm], HPZ, Nat.zero_add] at hz
      rw [HQZ] at hz'
      obtain ⟨x0, x1, x2, x3, x4, xe, HM⟩ := res5 (mulS ⟨⟨p0, p1, p2, p3⟩, p4⟩ ⟨⟨q0, q1, q2, q3⟩, q4⟩)
      have HMS : Hid (mulS (X k) (y k) = (⟨⟨x0, x1, x2, x3⟩, x4⟩, xe)) := Lib.hid (by rw [HPZ, HQZ, HM.out])
      obtain ⟨c0, c1, c2, c3, c4⟩ := hz
      obtain ⟨d0, d1, d2, d3, d4⟩ := hz'
      have lb : g < wr.heap.size := World.block_lt_of_cell? wr _ c0
      have lb' : b' < wr.heap.size := World.block_lt_of_cell? wr _ d0
      have mi0 : (0 : Int) ≤ (m : Int) := by omega
      have mi1 : (m : Int) < ((n * n : Nat) : Int) := by omega
      have mi2 : (m : Int) < (n : Int) * (n : Int) := by rw [← Int.natCast_mul]; omega
      have hc36 : c ≤ 36 := by have := hm.out; omega
      have HWS := Lib.hid hS
      have HRZ := Lib.hid hR
      have HBX := Lib.hid (And.intro b0 b1)
      have hw1 : IntKind.i64.wrap ((i : Int) * (n : Int)) = (c : Int) := by rw [← Int.natCast_mul, hc.out]; exact IntWalk.i64_in _ (by omega)
      have hw2 : IntKind.i64.wrap ((c : Int) + (k : Int)) = (m : Int) := by rw [← hm.out, Int.natCast_add]; exact IntWalk.i64_in _ (by omega)
      have V0 : ∀ w', Below wr.heap.size wr w' → w'.cell? ⟨w.heap.size, 0, none⟩ = some (.int .i64 n) ∧ w'.cell? ⟨w.heap.size, 1, none⟩ = some (.slice (some ⟨g, 0, none⟩) (n * n) cap) ∧ w'.cell? ⟨g, m * 5, none⟩ = some (.int .i64 p0) ∧ w'.cell? ⟨g, m * 5 + 1, none⟩ = some (.int .i64 p1) ∧ w'.cell? ⟨g, m * 5 + 2, none⟩ = some (.int .i64 p2) ∧ w'.cell? ⟨g, m * 5 + 3, none⟩ = some (.int .i64 p3) ∧ w'.cell? ⟨g, m * 5 + 4, none⟩ = some (.int .i64 p4) ∧ w'.cell? ⟨b', o' + k * 5, none⟩ = some (.int .i64 q0) ∧ w'.cell? ⟨b', o' + k * 5 + 1, none⟩ = some (.int .i64 q1) ∧ w'.cell? ⟨b', o' + k * 5 + 2, none⟩ = some (.int .i64 q2) ∧ w'.cell? ⟨b', o' + k * 5 + 3, none⟩ = some (.int .i64 q3) ∧ w'.cell? ⟨b', o' + k * 5 + 4, none⟩ = some (.int .i64 q4) := fun w' hb => by
        have e0 := fun o'' => hb.cell (p := ⟨w.heap.size, o'', none⟩) hsz2
        have e1 := fun o'' => hb.cell (p := ⟨g, o'', none⟩) lb
        have e2 := fun o'' => hb.cell (p := ⟨b', o'', none⟩) lb'
        rw [e0, e0, e1, e1, e1, e1, e1, e2, e2, e2, e2, e2]
        exact ⟨b0, b1, c0, c1, c2, c3, c4, d0, d1, d2, d3, d4⟩
      have G0 := Lib.hid V0
      have HBL := Lib.hid hbel
      have HW1 := Lib.hid hw1
      have HW2 := Lib.hid hw2
      clear V0 hcell hcell' HPZ HQZ HP HQ hS hR hbel h36 hmm he hc36 hw1 hw2
      go_upto_region 5 with fail
      go_cut [10, 11] (fun pv ev wx => ∃ n8, pv = .pointer (some ⟨n8, 0, none⟩) ∧ ev = .int .i64 xe ∧ wr.heap.size ≤ n8 ∧ n8 < wx.heap.size ∧ Has5 wx n8 x0 x1 x2 x3 x4 ∧ Below wr.heap.size wr wx)
      case first =>
        have hw1 := HW1.out
        have hw2 := HW2.out
        go_region_held3 (fun w' => w'.cell? ⟨w.heap.size, 0, none⟩ = some (.int .i64 n) ∧ w'.cell? ⟨w.heap.size, 1, none⟩ = some (.slice (some ⟨g, 0, none⟩) (n * n) cap) ∧ w'.cell? ⟨g, m * 5, none⟩ = some (.int .i64 p0) ∧ w'.cell? ⟨g, m * 5 + 1, none⟩ = some (.int .i64 p1) ∧ w'.cell? ⟨g, m * 5 + 2, none⟩ = some (.int .i64 p2) ∧ w'.cell? ⟨g, m * 5 + 3, none⟩ = some (.int .i64 p3) ∧ w'.cell? ⟨g, m * 5 + 4, none⟩ = some (.int .i64 p4) ∧ w'.cell? ⟨b', o' + k * 5, none⟩ = some (.int .i64 q0) ∧ w'.cell? ⟨b', o' + k * 5 + 1, none⟩ = some (.int .i64 q1) ∧ w'.cell? ⟨b', o' + k * 5 + 2, none⟩ = some (.int .i64 q2) ∧ w'.cell? ⟨b', o' + k * 5 + 3, none⟩ = some (.int .i64 q3) ∧ w'.cell? ⟨b', o' + k * 5 + 4, none⟩ = some (.int .i64 q4))
          ((first | ((try clear hw1 hw2); refine G0.out _ ?_; go_grown; done) | go_keep))
          ((go_at_call 82; clear hw1 hw2; refine (rMul_any _ _ _ _ _ _ _ _ _ _ _).mono ?_; rintro e wA ⟨rfl, hb⟩; rw [HM.out]; unfold Ret5; (try simp only); have HD : Below wr.heap.size wr wA := (Below.trans (by first | exact Below.refl _ _ | go_grown) (hb.mono (by first | omega | (simp; done) | (simp; omega)))); have hzA := HD.size; (try (refine with_keep5 (n := wr.heap.size) (a := 0) (b := 0) (c := 0) (d := 0) (k := 0) hb ?_ ?_ ?_; (refine ⟨⟨?_, ?_, ?_, ?_, ?_⟩, ?_, ?_, ?_, ?_, ?_⟩ <;> go_cell); (focus (first | omega | (simp; done) | (simp; omega))); rintro ⟨⟨_, _, _, _, _⟩, _, _, _, _, _⟩; have hb8 := hb.size; (try simp at hb8))); clear hb))
        all_goals (try clear hw1 hw2)
        all_goals
          go_wp2_with fail
          go_meet
          refine ⟨_, rfl, rfl, ?_, ?_, ?_, ?_⟩
          · first | omega | (simp; done) | (simp; omega)
          · first | omega | (simp; done) | (simp; omega)
          · refine ⟨⟨?_, ?_, ?_, ?_, ?_⟩, ?_, ?_, ?_, ?_, ?_⟩ <;> go_cell
          · go_grown
      case rest =>
        obtain ⟨n8, rfl, rfl, hn8, hl8, h5, hD8⟩ := hcut
        have HD := Lib.hid (HBL.out.trans (hD8.mono (show w.heap.size ≤ wr.heap.size by omega)))
        obtain ⟨⟨t0, t1, t2, t3, t4⟩, u0, u1, u2, u3, u4⟩ := HWS.out.keep hD8 hsz
        obtain ⟨⟨r0, r1, r2, r3, r4⟩, v0, v1, v2, v3, v4⟩ := HRZ.out.keep hD8 hsz1
        have g0 := (hD8.cell (p := ⟨w.heap.size, 0, none⟩) hsz2).trans HBX.out.1
        have g1 := (hD8.cell (p := ⟨w.heap.size, 1, none⟩) hsz2).trans HBX.out.2
        have hzc := hD8.size
        have hne8 : ¬ n8 = w.heap.size + 1 := by omega
        have hne9 : ¬ n8 = w.heap.size + 1 + 1 + 1 := by omega
        have l1 : w.heap.size + 1 + 1 + 1 < wc.heap.size := by omega
        have l2 : w.heap.size + 1 < wc.heap.size := by omega
        have l3 : w.heap.size < wc.heap.size := by omega
        clear hD8 c0 c1 c2 c3 c4 d0 d1 d2 d3 d4 b0 b1
        obtain ⟨⟨y0, y1, y2, y3, y4⟩, _⟩ := h5
        by_cases hxe : ¬ xe = 0
        · have hb0 : (xe == 0) = false := beq_eq_false_iff_ne.2 hxe
          have hb1 : (xe != 0) = true := bne_iff_ne.2 hxe
          have HX2 := Lib.hid hxe
          have D1 := HD.out
          clear hxe t0 t1 t2 t3 t4 u0 u1 u2 u3 u4 y0 y1 y2 y3 y4 g0 g1 mi0 mi1 mi2
          go_wp2_with fail
          refine (none_any _).mono ?_
          rintro e wB ⟨rfl, hb⟩
          have A5 : Has5 wB (w.heap.size + 1) 0 0 0 0 0 := Has5.keep (by refine ⟨⟨?_, ?_, ?_, ?_, ?_⟩, ?_, ?_, ?_, ?_, ?_⟩ <;> go_cell) hb (by first | omega | (simp; done) | (simp; omega))
          have DB : Below w.heap.size w wB := Below.trans (by go_grown) (hb.mono (by first | omega | (simp; done) | (simp; omega)))
          have lB : w.heap.size + 1 < wB.heap.size := by have hs := hb.size; (try simp at hs); omega
          clear hb r0 r1 r2 r3 r4 v0 v1 v2 v3 v4
          obtain ⟨⟨r0, r1, r2, r3, r4⟩, v0, v1, v2, v3, v4⟩ := A5
          go_wp2_with fail
          refine bodyPost_ret (v := .tuple #[.agg #[.int .i64 0, .int .i64 0, .int .i64 0, .int .i64 0, .int .i64 0], .int .i64 xe]) (by simp [results, Try.results46, go_sem, *]) rfl ⟨?_, by go_grown⟩
          have e1 := rowS_mul HRS.out HMS.out HX2.out
          rw [rowS_stay (k := k + 1) (by rw [e1]; exact HX2.out) n (by omega), e1]
          rfl
        obtain rfl : xe = 0 := Decidable.not_not.1 hxe
        clear hxe
        obtain ⟨z0, z1, z2, z3, z4, ze, HA⟩ := res5 (addS ⟨⟨s0, s1, s2, s3⟩, s4⟩ ⟨⟨x0, x1, x2, x3⟩, x4⟩)
        go_wp2_with fail
        refine (rAdd_any _ _ _ _ _ _ _ _ _ _ _).mono ?_
        rintro e wA ⟨rfl, hb⟩
        rw [HA.out]
        unfold Ret5
        (try simp only)
        have A1 : Has5 wA (w.heap.size + 1 + 1 + 1) s0 s1 s2 s3 s4 := Has5.keep (by refine ⟨⟨?_, ?_, ?_, ?_, ?_⟩, ?_, ?_, ?_, ?_, ?_⟩ <;> go_cell) hb (by first | omega | (simp; done) | (simp; omega))
        have A2 : Has5 wA (w.heap.size + 1) 0 0 0 0 0 := Has5.keep (by refine ⟨⟨?_, ?_, ?_, ?_, ?_⟩, ?_, ?_, ?_, ?_, ?_⟩ <;> go_cell) hb (by first | omega | (simp; done) | (simp; omega))
        have A3 : wA.cell? ⟨w.heap.size, 0, none⟩ = some (.int .i64 n) := (hb.cell (p := ⟨w.heap.size, 0, none⟩) (by first | omega | (simp; done) | (simp; omega))).trans (by go_cell)
        have A4 : wA.cell? ⟨w.heap.size, 1, none⟩ = some (.slice (some ⟨g, 0, none⟩) (n * n) cap) := (hb.cell (p := ⟨w.heap.size, 1, none⟩) (by first | omega | (simp; done) | (simp; omega))).trans (by go_cell)
        have DA : Below w.heap.size w wA := HD.out.trans (hb.mono (by first | omega | (simp; done) | (simp; omega)))
        have hzA := hb.size
        have l4 : w.heap.size + 1 + 1 + 1 < wA.heap.size := by omega
        have l5 : w.heap.size + 1 < wA.heap.size := by omega
        have l6 : w.heap.size < wA.heap.size := by omega
        clear hb t0 t1 t2 t3 t4 u0 u1 u2 u3 u4 r0 r1 r2 r3 r4 v0 v1 v2 v3 v4 g0 g1 y0 y1 y2 y3 y4
        obtain ⟨⟨t0, t1, t2, t3, t4⟩, u0, u1, u2, u3, u4⟩ := A1
        obtain ⟨⟨r0, r1, r2, r3, r4⟩, v0, v1, v2, v3, v4⟩ := A2
        by_cases hze : ¬ ze = 0
        · have hb0 : (ze == 0) = false := beq_eq_false_iff_ne.2 hze
          have hb1 : (ze != 0) = true := bne_iff_ne.2 hze
          have HX2 := Lib.hid hze
          clear hze A3 A4 mi0 mi1 mi2
          go_wp2_with fail
          refine (none_any _).mono ?_
          rintro e wB ⟨rfl, hb⟩
          have A5 : Has5 wB (w.heap.size + 1) 0 0 0 0 0 := Has5.keep (by refine ⟨⟨?_, ?_, ?_, ?_, ?_⟩, ?_, ?_, ?_, ?_, ?_⟩ <;> go_cell) hb (by first | omega | (simp; done) | (simp; omega))
          have DB : Below w.heap.size w wB := Below.trans (by go_grown) (hb.mono (by first | omega | (simp; done) | (simp; omega)))
          have lB : w.heap.size + 1 < wB.heap.size := by have hs := hb.size; (try simp at hs); omega
          clear hb t0 t1 t2 t3 t4 u0 u1 u2 u3 u4 DA r0 r1 r2 r3 r4 v0 v1 v2 v3 v4
          obtain ⟨⟨r0, r1, r2, r3, r4⟩, v0, v1, v2, v3, v4⟩ := A5
          go_wp2_with fail
          refine bodyPost_ret (v := .tuple #[.agg #[.int .i64 0, .int .i64 0, .int .i64 0, .int .i64 0, .int .i64 0], .int .i64 ze]) (by simp [results, Try.results46, go_sem, *]) rfl ⟨?_, by go_grown⟩
          have e1 := rowS_add HRS.out HMS.out HA.out HX2.out
          rw [rowS_stay (k := k + 1) (by rw [e1]; exact HX2.out) n (by omega), e1]
          rfl
        obtain rfl : ze = 0 := Decidable.not_not.1 hze
        clear hze
        go_wp2_with fail
        go_roundw
        case rel => exact ⟨k + 1, z0, z1, z2, z3, z4, by go_num, by omega, Lib.hid (rowS_go HRS.out HMS.out HA.out), by refine ⟨⟨?_, ?_, ?_, ?_, ?_⟩, ?_, ?_, ?_, ?_, ?_⟩ <;> go_cell, by refine ⟨⟨?_, ?_, ?_, ?_, ?_⟩, ?_, ?_, ?_, ?_, ?_⟩ <;> go_cell, by go_cell, by go_cell, by go_grown, by simp; omega⟩
        case measure => simp [intOf]; omega
    · obtain rfl : k = n := by omega
      obtain ⟨⟨t0, t1, t2, t3, t4⟩, u0, u1, u2, u3, u4⟩ := hS
      obtain ⟨⟨r0, r1, r2, r3, r4⟩, v0, v1, v2, v3, v4⟩ := hR
      go_wp2_with fail
      refine bodyPost_ret (v := .tuple #[.agg #[.int .i64 s0, .int .i64 s1, .int .i64 s2, .int .i64 s3, .int .i64 s4], .int .i64 0]) (by simp [results, Try.results46, go_sem, *]) rfl ⟨?_, by go_grown⟩
      rw [HRS.out]
      rfl
end Go.Proofs.Ytjodjfllgofkaaa

namespace Go.Proofs.Ytjodjfllgofkaaa
open Go.RowKit Amp
attribute [local go_sem] ix0 ix1 ix2 ix3 jx0 jx1 jx2 jx3
attribute [local go_sem high] run_eqNum run_neNum
def timZ (n : Nat) (x y : Nat → Nm) (i j : Nat) : Nm × Int := rowS (fun t => x (i * n + t)) (fun t => y (t * n + j)) n
def timF (n : Nat) (x y : Nat → Nm) : Nat → Nm := fun k => (timZ n x y (k / n) (k % n)).1
def timE (n : Nat) (x y : Nat → Nm) : Nat → Int := fun k => (timZ n x y (k / n) (k % n)).2
/-- What Times keeps. -/
def TmF (w : World) (n g h cap dap : Nat) (wr : World) : Prop := wr.cell? ⟨w.heap.size, 0, none⟩ = some (.int .i64 n) ∧ wr.cell? ⟨w.heap.size, 1, none⟩ = some (.slice (some ⟨g, 0, none⟩) (n * n) cap) ∧ wr.cell? ⟨w.heap.size + 1, 1, none⟩ = some (.slice (some ⟨h, 0, none⟩) (n * n) dap) ∧ wr.cell? ⟨w.heap.size + 1 + 1, 0, none⟩ = some (.int .i64 0) ∧ wr.cell? ⟨w.heap.size + 1 + 1, 1, none⟩ = some (.slice none 0 0) ∧ wr.frozen? ⟨w.heap.size + 1 + 1, 0, none⟩ = false ∧ wr.frozen? ⟨w.heap.size + 1 + 1, 1, none⟩ = false ∧ wr.cell? ⟨w.heap.size + 1 + 1 + 1, 0, none⟩ = some (.int .i64 n) ∧ wr.frozen? ⟨w.heap.size + 1 + 1 + 1, 1, none⟩ = false
theorem TmF.keep {w wr w1 : World} {n g h cap dap : Nat} (hF : TmF w n g h cap dap wr) (hb : Below wr.heap.size wr w1) (hz : w.heap.size + 1 + 1 + 1 < wr.heap.size) : TmF w n g h cap dap w1 := by
  obtain ⟨a0, a1, a2, a3, a4, a5, a6, a7, a8⟩ := hF
  have e := fun b o (hl : b < wr.heap.size) => hb.cell (p := ⟨b, o, none⟩) hl
  have f := fun b o (hl : b < wr.heap.size) => hb.frozen (p := ⟨b, o, none⟩) hl
  exact ⟨(e _ _ (by omega)).trans a0, (e _ _ (by omega)).trans a1, (e _ _ (by omega)).trans a2, (e _ _ (by omega)).trans a3, (e _ _ (by omega)).trans a4, (f _ _ (by omega)).trans a5, (f _ _ (by omega)).trans a6, (e _ _ (by omega)).trans a7, (f _ _ (by omega)).trans a8⟩

set_option maxRecDepth 100000 in
set_option maxHeartbeats 4000000 in
theorem rTimes_any (n g h cap dap : Nat) (x y : Nat → Nm) (w : World) (h1 : 0 < n) (hn : n ≤ 6) (hx : Nums w (some ⟨g, 0, none⟩) (n * n) x) (hy : Nums w (some ⟨h, 0, none⟩) (n * n) y) :
    Calls Try.prog 45 #[.agg #[.int .i64 n, .slice (some ⟨g, 0, none⟩) (n * n) cap], .agg #[.int .i64 n, .slice (some ⟨h, 0, none⟩) (n * n) dap]] w fun e w' => MatWOr w.heap.size w' e n (timF n x y) (fstE (timE n x y) (n * n)) ∧ Below w.heap.size w w' := by
  have HX := Lib.hid hx
  have HY := Lib.hid hy
  clear hx hy
  obtain ⟨FF, hFF⟩ : ∃ FF, Hid (FF = timF n x y) := ⟨_, rfl⟩
  obtain ⟨EE, hEE⟩ : ∃ EE, Hid (EE = timE n x y) := ⟨_, rfl⟩
  rw [← hFF.out, ← hEE.out]
  obtain ⟨i0, hi, hz0, hz1, hz2⟩ := info_parts infoNum
  have HI := Lib.hid (And.intro hi (And.intro hz0 (And.intro hz1 hz2)))
  clear hi hz0 hz1 hz2
  have hn' : (n : Int) ≤ 6 := by omega
  go_enter Try.func45, Try.ntmps45
  go_wp2_with fail
  go_loopw [7, 8, 9, 10, 11, 12, 18, 23, 28] (fun _ _ _ _ _ _ iv _ _ wr => ∃ (i : Nat) (lv : Value), iv = .int .i64 i ∧ i ≤ n ∧ wr.cell? ⟨w.heap.size + 1 + 1 + 1, 1, none⟩ = some lv ∧ Hid (TmF w n g h cap dap wr) ∧ Hid (wr.ownsRow (w.heap.size + 4) 63 5 lv (i * n) (rowsOf FF (i * n))) ∧ Hid (fstE EE (i * n) = 0) ∧ Below w.heap.size w wr ∧ w.heap.size + 1 + 1 + 1 < wr.heap.size) (fun _ _ _ _ _ _ iv _ _ _ => n - (intOf iv).toNat)
  case atStart => exact ⟨0, .slice none 0 0, rfl, by omega, by go_cell, Lib.hid ⟨by go_cell, by go_cell, by go_cell, by go_cell, by go_cell, by go_cell, by go_cell, by go_cell, by go_cell⟩, Lib.hid (by rw [Nat.zero_mul]; exact World.ownsRow_nil _ _ _ _), Lib.hid (by rw [Nat.zero_mul]; rfl), by go_grown, by simp⟩
  case round =>
    obtain ⟨i, lv, rfl, hi, m1, HF, HOW, hE0, hbel, hsz⟩ := hrel
    obtain ⟨a0, a1, a2, a3, a4, a5, a6, a7, a8⟩ := HF.out
    by_cases hlt : i < n
    · have hlt' : (i : Int) < (n : Int) := by omega
      have hi6 : (i : Int) ≤ 6 := by omega
      obtain ⟨wo, rfl⟩ : ∃ wo : World, wo = wr := ⟨_, rfl⟩
      have HBO := Lib.hid hbel
      go_wp2_with fail
      go_loopw [8, 9, 10, 11, 12, 23, 28] (fun _ _ _ _ _ jv _ wr => ∃ (j : Nat) (lv : Value), jv = .int .i64 j ∧ j ≤ n ∧ wr.cell? ⟨w.heap.size + 1 + 1 + 1, 1, none⟩ = some lv ∧ Hid (TmF w n g h cap dap wr) ∧ Hid (wr.ownsRow (w.heap.size + 4) 63 5 lv (i * n + j) (rowsOf FF (i * n + j))) ∧ Hid (fstE EE (i * n + j) = 0) ∧ Below w.heap.size w wr ∧ w.heap.size + 1 + 1 + 1 < wr.heap.size) (fun _ _ _ _ _ jv _ _ => n - (intOf jv).toNat)
      case atStart => exact ⟨0, lv, rfl, by omega, m1, HF, HOW, hE0, hbel, hsz⟩
      case round =>
        clear m1 a0 a1 a2 a3 a4 a5 a6 a7 a8 hbel hsz HF HOW hE0 lv
        obtain ⟨j, lv, rfl, hj, m1, HF, HOW, hE0, hbel, hsz⟩ := hrel
        obtain ⟨a0, a1, a2, a3, a4, a5, a6, a7, a8⟩ := HF.out
        by_cases hjt : j < n
        · have hjt' : (j : Int) < (n : Int) := by omega
          have hj6 : (j : Int) ≤ 6 := by omega
          obtain ⟨CC, hCC⟩ : ∃ CC : Nat → Nm, Hid (CC = fun t => y (t * n + j)) := ⟨_, rfl⟩
          obtain ⟨wp, rfl⟩ : ∃ wp : World, wp = wr := ⟨_, rfl⟩
          have HB1 := Lib.hid hbel
          clear hbel
          go_wp2_with fail
          go_loopw [9, 10, 28] (fun cv _ tv wr => ∃ (t : Nat), tv = .int .i64 t ∧ t ≤ n ∧ Hid (wr.ownsRow wp.heap.size 63 5 cv t (rowsOf CC t)) ∧ Below wp.heap.size wp wr) (fun _ _ tv _ => n - (intOf tv).toNat)
          case atStart => exact ⟨0, rfl, by omega, Lib.hid (World.ownsRow_nil _ _ _ _), Below.refl _ _⟩
          case round =>
            obtain ⟨t, rfl, ht, HOC, hbc⟩ := hrel
            have hszc := hbc.size
            have c0 : wr.cell? ⟨w.heap.size, 0, none⟩ = some (.int .i64 n) := (hbc.cell (p := ⟨w.heap.size, 0, none⟩) (by simp only; omega)).trans a0
            have c2 : wr.cell? ⟨w.heap.size + 1, 1, none⟩ = some (.slice (some ⟨h, 0, none⟩) (n * n) dap) := (hbc.cell (p := ⟨w.heap.size + 1, 1, none⟩) (by simp only; omega)).trans a2
            by_cases htt : t < n
            · have htt' : (t : Int) < (n : Int) := by omega
              have hmn : t * n + j < n * n := by
                have e1 : (t + 1) * n ≤ n * n := Nat.mul_le_mul_right n (by omega)
                rw [Nat.succ_mul] at e1; omega
              have h36 : n * n ≤ 36 := Nat.mul_le_mul hn hn
              obtain ⟨c, hc⟩ : ∃ c, Hid (t * n = c) := ⟨_, rfl⟩
              obtain ⟨m, hm⟩ : ∃ m, Hid (c + j = m) := ⟨_, rfl⟩
              have hmm : t * n + j = m := by rw [hc.out, hm.out]
              rw [hmm] at hmn
              have hci : (t : Int) * (n : Int) = (c : Int) := by rw [← Int.natCast_mul, hc.out]
              have hcm : (c : Int) + (j : Int) = (m : Int) := by have := hm.out; omega
              have hc36 : (c : Int) ≤ 36 := by have := hm.out; omega
              obtain ⟨b, o, he, hcell⟩ := (Nums.keep HY.out (HB1.out.trans (hbc.mono (show w.heap.size ≤ wp.heap.size by omega)))) (by omega)
              obtain ⟨rfl, rfl⟩ : h = b ∧ 0 = o := by
                simp only [Option.some.injEq, Addr.mk.injEq] at he
                exact ⟨he.1, he.2.1⟩
              obtain ⟨x0, x1, x2, x3, x4, xe, HM⟩ := res5 (CC t, 0)
              have HZ : Hid (CC t = ⟨⟨x0, x1, x2, x3⟩, x4⟩) := Lib.hid (congrArg Prod.fst HM.out)
              have hz := hcell m hmn
              rw [show y m = CC t by rw [hCC.out, ← hmm], HZ.out, Nat.zero_add] at hz
              obtain ⟨z0, z1, z2, z3, z4⟩ := hz
              have lb : h < wr.heap.size := World.block_lt_of_cell? wr _ z0
              have mi1 : (m : Int) < ((n * n : Nat) : Int) := by omega
              have mi2 : (m : Int) < (n : Int) * (n : Int) := by rw [← Int.natCast_mul]; omega
              have HBC := Lib.hid hbc
              clear hcell h36 hmm he hbc HM
              go_wp2_with (at_builtin; refine wpList_append_own _ rfl (.tmp 31) (.tmp 42) 23 rfl wp.heap.size 63 i0 _ 5 40 Try.underlying23 HI.out.1 HI.out.2.1 HI.out.2.2.1 HI.out.2.2.2 rfl (by decide) _ t (rowsOf CC t) rfl (HOC.out.alloc _) ⟨wr.heap.size, 0, none⟩ 1 1 (cellsOf ⟨⟨x0, x1, x2, x3⟩, x4⟩) rfl rfl ?c1 ?c2 ?c3 ?c4 ?c5 ?_)
              case c1 =>
                intro t u hu
                exact hu
              case c2 => exact cellsOf_one _
              case c3 => unfold maxLen; omega
              case c4 => omega
              case c5 => first | omega | (simp; omega)
              intro v' w3 hown' hgrow _
              have hrow : rowsOf CC t ++ cellsOf ⟨⟨x0, x1, x2, x3⟩, x4⟩ = rowsOf CC (t + 1) := by
                rw [rowsOf, HZ.out]
              rw [hrow] at hown'
              have hlt2 := HOC.out.lt
              have HB3 : Below wp.heap.size wp w3 := Below.grown (HBC.out.alloc (by first | omega | (simp; omega)) _) hgrow (by first | omega | (simp; omega)) (fun k hk => (hlt2 k hk).1)
              have HO3 := Lib.hid hown'
              have HB4 := Lib.hid HB3
              clear hown' hgrow HB3 hrow hlt2
              go_wp2_with fail
              go_roundw
              case rel => exact ⟨t + 1, by go_num, by omega, HO3, HB4.out⟩
              case measure => simp [intOf]; omega
            · obtain rfl : t = n := by omega
              obtain ⟨co, cp, rfl, hcn⟩ := Nums.of_own HOC.out
              have HCN := Lib.hid hcn
              have HFR := Lib.hid (HF.out.keep hbc hsz)
              have DW := Lib.hid (HB1.out.trans (hbc.mono (show w.heap.size ≤ wp.heap.size by omega)))
              have m2 := (hbc.cell (p := ⟨w.heap.size + 1 + 1 + 1, 1, none⟩) hsz).trans m1
              have HOR := Lib.hid (own_below HOW.out hbc)
              have hlast : i * t + j + 1 ≤ t * t := by
                have e1 : (i + 1) * t ≤ t * t := Nat.mul_le_mul_right t (by omega)
                rw [Nat.succ_mul] at e1; omega
              have h36 : t * t ≤ 36 := Nat.mul_le_mul hn hn
              have HLA := Lib.hid (And.intro hlast h36)
              have hdm := divmod_at (n := t) (i := i) (j := j) hjt
              obtain ⟨x0, x1, x2, x3, x4, xe, HM⟩ := res5 (timZ t x y i j)
              have HST : Hid (fstE EE (i * t + j + 1) = xe) := Lib.hid (by rw [fstE_step hE0.out, hEE.out]; unfold timE; rw [hdm.1, hdm.2, HM.out])
              have HV : Hid (FF (i * t + j) = ⟨⟨x0, x1, x2, x3⟩, x4⟩) := Lib.hid (by rw [hFF.out]; unfold timF; rw [hdm.1, hdm.2, HM.out])
              have hz2 : w.heap.size + 1 + 1 + 1 < wr.heap.size := by omega
              clear hcn hbc c0 c2 m1 a0 a1 a2 a3 a4 a5 a6 a7 a8 hlast h36 hdm
              obtain ⟨b0, b1, b2, b3, b4, b5, b6, b7, b8⟩ := HFR.out
              go_wp2_with fail
              refine (rRow_any t i g cap cp co x (fun s => y (s * t + j)) _ hn hlt (HX.out.keep DW.out) (by have hh := HCN.out; rw [hCC.out] at hh; exact hh)).mono ?_
              rintro e w1 ⟨rfl, hb⟩
              rw [show rowS (fun s => x (i * t + s)) (fun s => y (s * t + j)) t = timZ t x y i j from rfl, HM.out]
              unfold Ret5
              (try simp only)
              have HF1 := Lib.hid (HFR.out.keep hb hz2)
              have m3 := (hb.cell (p := ⟨w.heap.size + 1 + 1 + 1, 1, none⟩) hz2).trans m2
              have HO1 := Lib.hid (own_below HOR.out hb)
              have DW1 := Lib.hid (DW.out.trans (hb.mono (show w.heap.size ≤ wr.heap.size by omega)))
              have hz3 : w.heap.size + 1 + 1 + 1 < w1.heap.size := by have := hb.size; omega
              have l1 : w.heap.size + 1 + 1 < w1.heap.size := by omega
              have l2 : w.heap.size + 1 < w1.heap.size := by omega
              have l3 : w.heap.size < w1.heap.size := by omega
              clear hb b0 b1 b2 b3 b4 b5 b6 b7 b8 m2
              obtain ⟨b0, b1, b2, b3, b4, b5, b6, b7, b8⟩ := HF1.out
              by_cases hxe : ¬ xe = 0
              · have hb0 : (xe == 0) = false := beq_eq_false_iff_ne.2 hxe
                have hb1 : (xe != 0) = true := bne_iff_ne.2 hxe
                have HX2 := Lib.hid hxe
                have D1 := DW1.out
                clear hxe b0 b1 b2 b7 b8 m3
                go_wp2_with fail
                refine bodyPost_ret (v := .tuple #[.agg #[.int .i64 0, .slice none 0 0], .int .i64 xe]) (by simp [results, Try.results45, go_sem, *]) rfl ⟨?_, by go_grown⟩
                have hfin := fstE_stay (g := EE) (by rw [HST.out]; exact HX2.out) HLA.out.1
                rw [hfin, HST.out]
                exact .inr ⟨HX2.out, rfl⟩
              obtain rfl : xe = 0 := Decidable.not_not.1 hxe
              clear hxe
              have HNE : Hid (∀ k, k ≤ w.heap.size + 1 + 1 + 1 → some k ≠ Value.ownBlock lv) := Lib.hid (fun k hk hh => by have := (HO1.out.lt k hh.symm).1; omega)
              go_wp2_with (at_builtin; refine wpList_append_lies _ rfl (.tmp 57) (.tmp 59) 23 rfl (w.heap.size + 4) 63 i0 _ 5 40 Try.underlying23 HI.out.1 HI.out.2.1 HI.out.2.2.1 HI.out.2.2.2 rfl (by decide) lv (i * t + j) (rowsOf FF (i * t + j)) rfl ((HO1.out.alloc _).alloc _) ⟨w1.heap.size + 1, 0, none⟩ 1 1 (cellsOf ⟨⟨x0, x1, x2, x3⟩, x4⟩) rfl rfl ?c1 (cellsOf_one _) (by omega) ?c3 ?c4 ?c5 (w1.heap.size + 1 + 1) (by simp) ?_)
              case c1 => exact World.news_of_block (cs := #[.int .i64 x0, .int .i64 x1, .int .i64 x2, .int .i64 x3, .int .i64 x4]) (t := 63) (fr := (0, 0)) (new2 w1 _ _ _)
              case c3 => have := HLA.out; unfold maxLen; omega
              case c4 => have := HLA.out; omega
              case c5 => simp; omega
              intro gg cap' w3 hown' hgrow hat hlt3
              have e0 := far_cell hgrow (a := ⟨w.heap.size, 0, none⟩) (v := .int .i64 t) (by go_cell) (HNE.out (w.heap.size) (by omega))
              have e1 := far_cell hgrow (a := ⟨w.heap.size, 1, none⟩) (v := .slice (some ⟨g, 0, none⟩) (t * t) cap) (by go_cell) (HNE.out (w.heap.size) (by omega))
              have e2 := far_cell hgrow (a := ⟨w.heap.size + 1, 1, none⟩) (v := .slice (some ⟨h, 0, none⟩) (t * t) dap) (by go_cell) (HNE.out (w.heap.size + 1) (by omega))
              have e3 := far_cell hgrow (a := ⟨w.heap.size + 1 + 1, 0, none⟩) (v := .int .i64 0) (by go_cell) (HNE.out (w.heap.size + 1 + 1) (by omega))
              have e4 := far_cell hgrow (a := ⟨w.heap.size + 1 + 1, 1, none⟩) (v := .slice none 0 0) (by go_cell) (HNE.out (w.heap.size + 1 + 1) (by omega))
              have e5 := far_frozen hgrow (a := ⟨w.heap.size + 1 + 1, 0, none⟩) (v := .int .i64 0) (by go_cell) (by go_cell) (HNE.out (w.heap.size + 1 + 1) (by omega))
              have e6 := far_frozen hgrow (a := ⟨w.heap.size + 1 + 1, 1, none⟩) (v := .slice none 0 0) (by go_cell) (by go_cell) (HNE.out (w.heap.size + 1 + 1) (by omega))
              have e7 := far_cell hgrow (a := ⟨w.heap.size + 1 + 1 + 1, 0, none⟩) (v := .int .i64 t) (by go_cell) (HNE.out (w.heap.size + 1 + 1 + 1) (by omega))
              have e9 := far_cell hgrow (a := ⟨w.heap.size + 1 + 1 + 1, 1, none⟩) (v := lv) (by go_cell) (HNE.out (w.heap.size + 1 + 1 + 1) (by omega))
              have e8 := far_frozen hgrow (a := ⟨w.heap.size + 1 + 1 + 1, 1, none⟩) (v := lv) (by go_cell) (by go_cell) (HNE.out (w.heap.size + 1 + 1 + 1) (by omega))
              have hrow : rowsOf FF (i * t + j) ++ cellsOf ⟨⟨x0, x1, x2, x3⟩, x4⟩ = rowsOf FF (i * t + (j + 1)) := by
                rw [← Nat.add_assoc, rowsOf, HV.out]
              rw [hrow, Nat.add_assoc] at hown'
              have hltk := HO1.out.lt
              have HB3 : Below w.heap.size w w3 := Below.grown ((DW1.out.alloc (by first | omega | (simp; omega)) _).alloc (by first | omega | (simp; omega)) _) hgrow (by first | omega | (simp; omega)) (fun k hk => by have := (hltk k hk).1; omega)
              have HO3 := Lib.hid (ownsRow_setCell_below hown' (a := ⟨w.heap.size + 1 + 1 + 1, 1, none⟩) (by simp) (.slice (some ⟨gg, 0, none⟩) (i * t + (j + 1)) cap'))
              have hz9 : w.heap.size + 1 + 1 + 1 < w3.heap.size := World.block_lt_of_cell? w3 _ e7
              clear hown' hgrow hrow hltk b0 b1 b2 b3 b4 b5 b6 b7 b8 m3
              go_wp2_with fail
              go_roundw
              case rel => exact ⟨j + 1, .slice (some ⟨gg, 0, none⟩) (i * t + (j + 1)) cap', by go_num, by omega, by go_cell, Lib.hid ⟨by go_cell, by go_cell, by go_cell, by go_cell, by go_cell, by go_cell, by go_cell, by go_cell, by go_cell⟩, HO3, HST, by go_grown, by simpa using hz9⟩
              case measure => simp [intOf]; omega
        · obtain rfl : j = n := by omega
          go_wp2_with fail
          go_roundw
          case rel => exact ⟨i + 1, lv, by go_num, by omega, m1, HF, Lib.hid (by rw [Nat.succ_mul]; exact HOW.out), Lib.hid (by rw [Nat.succ_mul]; exact hE0.out), hbel, hsz⟩
          case measure => simp [intOf]; omega
    · obtain rfl : i = n := by omega
      obtain ⟨og, oap, rfl, hgB, hgc, hgm⟩ := own_form HOW.out (Nat.mul_pos h1 h1)
      have HG := Lib.hid (And.intro hgB (And.intro hgc hgm))
      have l0 : w.heap.size + 1 + 1 < wr.heap.size := by omega
      clear hgB hgc hgm a0 a1 a2
      go_wp2_with fail
      refine bodyPost_ret (v := .tuple #[.agg #[.int .i64 i, .slice (some ⟨og, 0, none⟩) (i * i) oap], .int .i64 0]) (by simp [results, Try.results45, go_sem, *]) rfl ⟨.inl ⟨hE0.out, og, oap, rfl, ?_, by have := HG.out.1; omega, HG.out.2.1, HG.out.2.2⟩, by go_grown⟩
      have hnw : Numw wr og (i * i) FF := Numw.of_own HOW.out (fun k hk t ht => rowsOf_get _ hk ht)
      exact (hnw.other (by have := HG.out.1; omega)).other (by have := HG.out.1; omega)
end Go.Proofs.Ytjodjfllgofkaaa
