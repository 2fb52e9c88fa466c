import Derived.Test.YtgbnpnenejgnnaaJ
import Derived.Deep.RegionHeld3
namespace Amp
def flipV (x : C4) (k : Int) : C4 := if k % 2 = 1 then neg (flp x) else flp x
def rotn : Nat → C4 → C4
  | 0, x => x
  | n + 1, x => rot (rotn n x)
theorem rot_bd {x : C4} {B : Int} (h : big B x) : big B (rot x) := by
  obtain ⟨⟨a1, a2⟩, ⟨b1, b2⟩, ⟨c1, c2⟩, ⟨d1, d2⟩⟩ := h
  refine ⟨⟨?_, ?_⟩, ⟨?_, ?_⟩, ⟨?_, ?_⟩, ⟨?_, ?_⟩⟩ <;> simp only [rot] <;> omega
theorem rotn_bd {x : C4} {B : Int} (n : Nat) (h : big B x) : big B (rotn n x) := by
  induction n with
  | zero => exact h
  | succ n ih => exact rot_bd ih
end Amp
namespace Go.Proofs.Ytgbnpnenejgnnaa
open Go.RowKit Amp
attribute [local go_sem] ix0 ix1 ix2 ix3 jx0 jx1 jx2 jx3
theorem and7 (m : Int) : bits BinOp.and IntKind.i64 m 7 = m % 8 := by
  show IntKind.i64.wrap ((BitVec.ofInt 64 m &&& BitVec.ofInt 64 7).toNat : Int) = _
  rw [BitVec.toNat_and, show (BitVec.ofInt 64 7).toNat = 2 ^ 3 - 1 from by decide, Nat.and_two_pow_sub_one_eq_mod, BitVec.toNat_ofInt, IntKind.wrap_i64]
  omega
set_option maxHeartbeats 400000 in
theorem conjugateA_any (a b c d : Int) (w : World) (h : big 4611686018427387903 ⟨a, b, c, d⟩) :
    Calls Try.prog 113 #[.agg #[.int .i64 a, .int .i64 b, .int .i64 c, .int .i64 d]] w fun e w' => e = .returned (.agg #[.int .i64 a, .int .i64 (-d), .int .i64 (-c), .int .i64 (-b)]) ∧ Below w.heap.size w w' := by
  obtain ⟨⟨a1, a2⟩, ⟨b1, b2⟩, ⟨c1, c2⟩, ⟨d1, d2⟩⟩ := h
  simp only at a1 a2 b1 b2 c1 c2 d1 d2
  go_enter Try.func113, Try.ntmps113
  go_wp2
  go_returns
  exact ⟨rfl, by go_grown⟩
set_option maxHeartbeats 1000000 in
theorem turnLeaf_any (a b c d m : Int) (n : Nat) (w : World) (h : big 1000000000 ⟨a, b, c, d⟩) (hk : w.cell? ⟨n, 0, none⟩ = some (.int .i64 m)) :
    Calls Try.prog 115 #[.agg #[.int .i64 a, .int .i64 b, .int .i64 c, .int .i64 d], .pointer (some ⟨n, 0, none⟩)] w fun e w' => e = .returned (.agg #[.int .i64 (rotn (m % 8).toNat ⟨a, b, c, d⟩).a, .int .i64 (rotn (m % 8).toNat ⟨a, b, c, d⟩).b, .int .i64 (rotn (m % 8).toNat ⟨a, b, c, d⟩).c, .int .i64 (rotn (m % 8).toNat ⟨a, b, c, d⟩).d]) ∧ Below w.heap.size w w' := by
  have hlt := World.block_lt_of_cell? w _ hk
  simp only at hlt
  have hne : ¬ w.heap.size = n := by omega
  have hne2 : ¬ w.heap.size + 1 = n := by omega
  have hlt2 : n < w.heap.size + 1 := by omega
  have hlt3 : n < w.heap.size + 1 + 1 := by omega
  have h8 := and7 m
  obtain ⟨N, hN⟩ : ∃ N : Nat, Hid (m % 8 = (N : Int)) := ⟨(m % 8).toNat, by show _ = _; omega⟩
  have hN8 : N < 8 := by have := hN.out; omega
  rw [hN.out] at h8
  rw [hN.out, Int.toNat_natCast]
  have H8 := Lib.hid h8
  clear h8
  go_enter Try.func115, Try.ntmps115
  go_wp2
  rw [H8.out]
  go_loopw [6] (fun kk wr => ∃ (x y z u : Int) (j : Nat), kk = .int .i64 j ∧ j ≤ N ∧ Hid (rotn j ⟨a, b, c, d⟩ = ⟨x, y, z, u⟩) ∧ w.heap.size + 1 < wr.heap.size ∧ Has4 wr w.heap.size x y z u ∧ Has4 wr (w.heap.size + 1) 0 0 0 0 ∧ Below w.heap.size w wr)
    (fun kk _ => N - (intOf kk).toNat)
  case atStart =>
    refine ⟨a, b, c, d, 0, rfl, by omega, rfl, ?_, ?_, ?_, ?_⟩
    · simp
    · refine ⟨⟨?_, ?_, ?_, ?_⟩, ?_, ?_, ?_, ?_⟩ <;> go_cell
    · refine ⟨⟨?_, ?_, ?_, ?_⟩, ?_, ?_, ?_, ?_⟩ <;> go_cell
    · go_grown
  case round =>
    obtain ⟨x, y, z, u, j, rfl, hj, HT, hsz, H4, H5, hbel⟩ := hrel
    have bx := rotn_bd j h
    rw [HT.out] at bx
    obtain ⟨⟨a1, a2⟩, ⟨b1, b2⟩, ⟨c1, c2⟩, ⟨d1, d2⟩⟩ := bx
    simp only at a1 a2 b1 b2 c1 c2 d1 d2
    obtain ⟨⟨c0, c1, c2, c3⟩, f0, f1, f2, f3⟩ := H4
    obtain ⟨⟨g0, g1, g2, g3⟩, e0, e1, e2, e3⟩ := H5
    by_cases hlt : j < N
    · go_wp2_with fail
      go_roundw
      case rel =>
        refine ⟨-u, x, y, z, j + 1, by go_num, by omega, ?_, ?_, ?_, ?_, ?_⟩
        · show rotn (j + 1) _ = _
          rw [rotn, HT.out]; rfl
        · simp; omega
        · refine ⟨⟨?_, ?_, ?_, ?_⟩, ?_, ?_, ?_, ?_⟩ <;> go_cell
        · refine ⟨⟨?_, ?_, ?_, ?_⟩, ?_, ?_, ?_, ?_⟩ <;> go_cell
        · go_grown
      case measure => simp [intOf]; omega
    · go_wp2_with fail
      refine bodyPost_ret (v := .agg #[.int .i64 x, .int .i64 y, .int .i64 z, .int .i64 u]) (by simp [results, Try.results115, go_sem, *]) rfl ⟨?_, by go_grown⟩
      obtain rfl : j = N := by omega
      rw [HT.out]
end Go.Proofs.Ytgbnpnenejgnnaa

namespace Amp
def chgS (z : Nm) (g : C4 → C4) : Nm × Int := if vld z = true then made (g z.v) z.k.toNat else (N0, 10)
theorem neg_bd {x : C4} {B : Int} (h : big B x) : big B (neg x) := by
  obtain ⟨⟨a1, a2⟩, ⟨b1, b2⟩, ⟨c1, c2⟩, ⟨d1, d2⟩⟩ := h
  refine ⟨⟨?_, ?_⟩, ⟨?_, ?_⟩, ⟨?_, ?_⟩, ⟨?_, ?_⟩⟩ <;> simp only [neg] <;> omega
theorem conj_bd {x : C4} {B : Int} (h : big B x) : big B (conj x) := by
  obtain ⟨⟨a1, a2⟩, ⟨b1, b2⟩, ⟨c1, c2⟩, ⟨d1, d2⟩⟩ := h
  refine ⟨⟨?_, ?_⟩, ⟨?_, ?_⟩, ⟨?_, ?_⟩, ⟨?_, ?_⟩⟩ <;> simp only [conj] <;> omega
theorem flp_bd {x : C4} {B : Int} (h : big B x) : big B (flp x) := by
  obtain ⟨⟨a1, a2⟩, ⟨b1, b2⟩, ⟨c1, c2⟩, ⟨d1, d2⟩⟩ := h
  refine ⟨⟨?_, ?_⟩, ⟨?_, ?_⟩, ⟨?_, ?_⟩, ⟨?_, ?_⟩⟩ <;> simp only [flp] <;> omega
theorem flip_bd {x : C4} {B k : Int} (h : big B x) : big B (flipV x k) := by
  unfold flipV; split
  · exact neg_bd (flp_bd h)
  · exact flp_bd h
theorem turn_bd {x : C4} {B m : Int} (h : big B x) : big B (rotn (m % 8).toNat x) := rotn_bd _ h
end Amp
namespace Go.Proofs.Ytgbnpnenejgnnaa
open Go.RowKit Amp
attribute [local go_sem] ix0 ix1 ix2 ix3 jx0 jx1 jx2 jx3

set_option maxHeartbeats 2000000 in
theorem changed_conj (a b c d k : Int) (w : World) :
    Calls Try.prog 114 #[.agg #[.int .i64 a, .int .i64 b, .int .i64 c, .int .i64 d, .int .i64 k], .func (Fn.func 113) #[] #[]] w fun e w' => e = Ret5 (chgS ⟨⟨a, b, c, d⟩, k⟩ (conj)) ∧ Below w.heap.size w w' := by
  cases hv : vld ⟨⟨a, b, c, d⟩, k⟩
  · go_enter Try.func114, Try.ntmps114
    go_wp2_with fail
    refine (check1 _ _ ⟨⟨a, b, c, d⟩, k⟩ _ (by refine ⟨?_, ?_, ?_, ?_, ?_⟩ <;> go_cell)).mono ?_
    rintro e w1 ⟨rfl, hb1⟩
    obtain ⟨⟨q0, q1, q2, q3, q4⟩, r0, r1, r2, r3, r4⟩ : Has5 w1 (w.heap.size + 1) 0 0 0 0 0 := Has5.keep (by refine ⟨⟨?_, ?_, ?_, ?_, ?_⟩, ?_, ?_, ?_, ?_, ?_⟩ <;> go_cell) hb1 (by first | omega | (simp; done) | (simp; omega))
    have D1 : Below w.heap.size w w1 := Below.trans (by go_grown) (hb1.mono (by first | omega | (simp; done) | (simp; omega)))
    clear hb1
    rw [chk1_bad hv]
    go_wp2_with fail
    refine bodyPost_ret (v := .tuple #[.agg #[.int .i64 0, .int .i64 0, .int .i64 0, .int .i64 0, .int .i64 0], .int .i64 10]) (by simp [results, Try.results114, go_sem, *]) rfl ⟨?_, by go_grown⟩
    unfold chgS; rw [hv]; rfl
  · have hE : chgS ⟨⟨a, b, c, d⟩, k⟩ (conj) = made ((conj) ⟨a, b, c, d⟩) k.toNat := by unfold chgS; rw [hv]; rfl
    have hE := Lib.hid hE
    have HX := vld_sm hv
    have hk0 := (vld_k hv).1
    have hk1 := (vld_k hv).2
    simp only at hk0 hk1 HX
    go_enter Try.func114, Try.ntmps114
    go_wp2_with fail
    refine (check1 _ _ ⟨⟨a, b, c, d⟩, k⟩ _ (by refine ⟨?_, ?_, ?_, ?_, ?_⟩ <;> go_cell)).mono ?_
    rintro e w1 ⟨rfl, hb1⟩
    have A1 : Has5 w1 w.heap.size a b c d k := Has5.keep (by refine ⟨⟨?_, ?_, ?_, ?_, ?_⟩, ?_, ?_, ?_, ?_, ?_⟩ <;> go_cell) hb1 (by first | omega | (simp; done) | (simp; omega))
    have C1 : Has5 w1 (w.heap.size + 1) 0 0 0 0 0 := Has5.keep (by refine ⟨⟨?_, ?_, ?_, ?_, ?_⟩, ?_, ?_, ?_, ?_, ?_⟩ <;> go_cell) hb1 (by first | omega | (simp; done) | (simp; omega))
    have D1 : Below w.heap.size w w1 := Below.trans (by go_grown) (hb1.mono (by first | omega | (simp; done) | (simp; omega)))
    have s1 : w.heap.size + 2 ≤ w1.heap.size := by have := hb1.size; simp at this; omega
    clear hb1
    rw [chk1_ok hv]
    clear hv
    go_wp2_with fail
    have G0 : ∀ w', Below (w.heap.size + 1) w1 w' → w'.cell? ⟨w.heap.size, 0, none⟩ = some (.int .i64 a) ∧ w'.cell? ⟨w.heap.size, 1, none⟩ = some (.int .i64 b) ∧ w'.cell? ⟨w.heap.size, 2, none⟩ = some (.int .i64 c) ∧ w'.cell? ⟨w.heap.size, 3, none⟩ = some (.int .i64 d) ∧ w'.cell? ⟨w.heap.size, 4, none⟩ = some (.int .i64 k) := by
      intro w' hb
      obtain ⟨⟨a0, a1, a2, a3, a4⟩, _⟩ := A1
      have e := fun o => hb.cell (p := ⟨w.heap.size, o, none⟩) (by simp only; omega)
      exact ⟨(e 0).trans a0, (e 1).trans a1, (e 2).trans a2, (e 3).trans a3, (e 4).trans a4⟩
    have G1 : ∀ w', Below w1.heap.size w1 w' → Has5 w' (w.heap.size + 1) 0 0 0 0 0 := fun w' hb => C1.keep hb (by omega)
    have G0 := Lib.hid G0
    have G1 := Lib.hid G1
    obtain ⟨y0, y1, y2, y3, HP⟩ : ∃ y0 y1 y2 y3, Hid ((conj) ⟨a, b, c, d⟩ = ⟨y0, y1, y2, y3⟩) := ⟨_, _, _, _, rfl⟩
    have hbd : big 4611686018427387903 ⟨y0, y1, y2, y3⟩ := by rw [← HP.out]; exact big_mono (conj_bd HX) (by omega)
    have hnat : k = ((k.toNat : Nat) : Int) := by omega
    have HN := Lib.hid hnat
    have HK : k.toNat ≤ 10000 := by omega
    clear hnat
    obtain ⟨x', y', z', u', v', er, HM⟩ := res5 (made ⟨y0, y1, y2, y3⟩ k.toNat)
    go_region_held3 (fun w' => w'.cell? ⟨w.heap.size, 0, none⟩ = some (.int .i64 a) ∧ w'.cell? ⟨w.heap.size, 1, none⟩ = some (.int .i64 b) ∧ w'.cell? ⟨w.heap.size, 2, none⟩ = some (.int .i64 c) ∧ w'.cell? ⟨w.heap.size, 3, none⟩ = some (.int .i64 d) ∧ w'.cell? ⟨w.heap.size, 4, none⟩ = some (.int .i64 k))
      ((refine G0.out _ ?_; go_grown))
      (first | (go_at_call 113; refine (conjugateA_any _ _ _ _ _ (big_mono HX (by omega))).mono ?_; rintro e wA ⟨rfl, hb⟩; have hp := HP.out; simp only [conj, C4.mk.injEq] at hp; obtain ⟨hp0, hp1, hp2, hp3⟩ := hp; rw [hp1, hp2, hp3]; subst hp0; clear hp1 hp2 hp3; have HDwA : Below w1.heap.size w1 wA := Below.trans (by go_grown) (hb.mono (by first | omega | (simp; done) | (simp; omega))); have HExA := HDwA.mono (show w.heap.size + 1 ≤ w1.heap.size by omega); have hzA := HDwA.size; clear hb) | (go_at_call 110; rw [HN.out]; refine (reduced_any _ _ _ _ _ _ hbd HK).mono ?_; rintro e wB ⟨rfl, hb⟩; rw [HM.out]; unfold Ret5; (try simp only); have HDwB : Below w1.heap.size w1 wB := Below.trans (by go_grown) (hb.mono (by first | omega | (simp; done) | (simp; omega))); have HExB := HDwB.mono (show w.heap.size + 1 ≤ w1.heap.size by omega); have HEzB := HDwB.mono (show w.heap.size ≤ w1.heap.size by omega); have hzB := HDwB.size; obtain ⟨⟨_, _, _, _, _⟩, _, _, _, _, _⟩ := G1.out _ HDwB; clear hb))
    all_goals
      go_wp2_with fail
      refine bodyPost_ret (v := .tuple #[.agg #[.int .i64 x', .int .i64 y', .int .i64 z', .int .i64 u', .int .i64 v'], .int .i64 er]) (by simp [results, Try.results114, go_sem, *]) rfl ⟨?_, ?_⟩
      · rw [hE.out, HP.out, HM.out]; rfl
      · exact D1.trans (by go_grown)

set_option maxHeartbeats 2000000 in
theorem changed_turn (a b c d k : Int) (n : Nat) (m : Int) (w : World) (hk : w.cell? ⟨n, 0, none⟩ = some (.int .i64 m)) :
    Calls Try.prog 114 #[.agg #[.int .i64 a, .int .i64 b, .int .i64 c, .int .i64 d, .int .i64 k], .func (Fn.func 115) #[] #[.pointer (some ⟨n, 0, none⟩)]] w fun e w' => e = Ret5 (chgS ⟨⟨a, b, c, d⟩, k⟩ (fun x => rotn (m % 8).toNat x)) ∧ Below w.heap.size w w' := by
  have hlt := World.block_lt_of_cell? w _ hk
  simp only at hlt
  have hcell := hk
  have hlt2 : n < w.heap.size + 1 := by omega
  have hlt3 : n < w.heap.size + 1 + 1 := by omega
  have hlt4 : n < w.heap.size + 1 + 1 + 1 := by omega
  cases hv : vld ⟨⟨a, b, c, d⟩, k⟩
  · go_enter Try.func114, Try.ntmps114
    go_wp2_with fail
    refine (check1 _ _ ⟨⟨a, b, c, d⟩, k⟩ _ (by refine ⟨?_, ?_, ?_, ?_, ?_⟩ <;> go_cell)).mono ?_
    rintro e w1 ⟨rfl, hb1⟩
    obtain ⟨⟨q0, q1, q2, q3, q4⟩, r0, r1, r2, r3, r4⟩ : Has5 w1 (w.heap.size + 1) 0 0 0 0 0 := Has5.keep (by refine ⟨⟨?_, ?_, ?_, ?_, ?_⟩, ?_, ?_, ?_, ?_, ?_⟩ <;> go_cell) hb1 (by first | omega | (simp; done) | (simp; omega))
    have D1 : Below w.heap.size w w1 := Below.trans (by go_grown) (hb1.mono (by first | omega | (simp; done) | (simp; omega)))
    clear hb1
    rw [chk1_bad hv]
    go_wp2_with fail
    refine bodyPost_ret (v := .tuple #[.agg #[.int .i64 0, .int .i64 0, .int .i64 0, .int .i64 0, .int .i64 0], .int .i64 10]) (by simp [results, Try.results114, go_sem, *]) rfl ⟨?_, by go_grown⟩
    unfold chgS; rw [hv]; rfl
  · have hE : chgS ⟨⟨a, b, c, d⟩, k⟩ (fun x => rotn (m % 8).toNat x) = made ((fun x => rotn (m % 8).toNat x) ⟨a, b, c, d⟩) k.toNat := by unfold chgS; rw [hv]; rfl
    have hE := Lib.hid hE
    have HX := vld_sm hv
    have hk0 := (vld_k hv).1
    have hk1 := (vld_k hv).2
    simp only at hk0 hk1 HX
    go_enter Try.func114, Try.ntmps114
    go_wp2_with fail
    refine (check1 _ _ ⟨⟨a, b, c, d⟩, k⟩ _ (by refine ⟨?_, ?_, ?_, ?_, ?_⟩ <;> go_cell)).mono ?_
    rintro e w1 ⟨rfl, hb1⟩
    have A1 : Has5 w1 w.heap.size a b c d k := Has5.keep (by refine ⟨⟨?_, ?_, ?_, ?_, ?_⟩, ?_, ?_, ?_, ?_, ?_⟩ <;> go_cell) hb1 (by first | omega | (simp; done) | (simp; omega))
    have C1 : Has5 w1 (w.heap.size + 1) 0 0 0 0 0 := Has5.keep (by refine ⟨⟨?_, ?_, ?_, ?_, ?_⟩, ?_, ?_, ?_, ?_, ?_⟩ <;> go_cell) hb1 (by first | omega | (simp; done) | (simp; omega))
    have D1 : Below w.heap.size w w1 := Below.trans (by go_grown) (hb1.mono (by first | omega | (simp; done) | (simp; omega)))
    have s1 : w.heap.size + 2 ≤ w1.heap.size := by have := hb1.size; simp at this; omega
    clear hb1
    rw [chk1_ok hv]
    clear hv
    go_wp2_with fail
    have G0 : ∀ w', Below (w.heap.size + 1) w1 w' → w'.cell? ⟨w.heap.size, 0, none⟩ = some (.int .i64 a) ∧ w'.cell? ⟨w.heap.size, 1, none⟩ = some (.int .i64 b) ∧ w'.cell? ⟨w.heap.size, 2, none⟩ = some (.int .i64 c) ∧ w'.cell? ⟨w.heap.size, 3, none⟩ = some (.int .i64 d) ∧ w'.cell? ⟨w.heap.size, 4, none⟩ = some (.int .i64 k) := by
      intro w' hb
      obtain ⟨⟨a0, a1, a2, a3, a4⟩, _⟩ := A1
      have e := fun o => hb.cell (p := ⟨w.heap.size, o, none⟩) (by simp only; omega)
      exact ⟨(e 0).trans a0, (e 1).trans a1, (e 2).trans a2, (e 3).trans a3, (e 4).trans a4⟩
    have G1 : ∀ w', Below w1.heap.size w1 w' → Has5 w' (w.heap.size + 1) 0 0 0 0 0 := fun w' hb => C1.keep hb (by omega)
    have G0 := Lib.hid G0
    have G1 := Lib.hid G1
    have G2 : ∀ w', Below w1.heap.size w1 w' → w'.cell? ⟨n, 0, none⟩ = some (.int .i64 m) := fun w' hb => (hb.cell (p := ⟨n, 0, none⟩) (by simp only; omega)).trans ((D1.cell (p := ⟨n, 0, none⟩) hlt).trans hcell)
    have G2 := Lib.hid G2
    obtain ⟨y0, y1, y2, y3, HP⟩ : ∃ y0 y1 y2 y3, Hid ((fun x => rotn (m % 8).toNat x) ⟨a, b, c, d⟩ = ⟨y0, y1, y2, y3⟩) := ⟨_, _, _, _, rfl⟩
    have hbd : big 4611686018427387903 ⟨y0, y1, y2, y3⟩ := by rw [← HP.out]; exact big_mono (turn_bd HX) (by omega)
    have hnat : k = ((k.toNat : Nat) : Int) := by omega
    have HN := Lib.hid hnat
    have HK : k.toNat ≤ 10000 := by omega
    clear hnat
    obtain ⟨x', y', z', u', v', er, HM⟩ := res5 (made ⟨y0, y1, y2, y3⟩ k.toNat)
    go_region_held3 (fun w' => w'.cell? ⟨w.heap.size, 0, none⟩ = some (.int .i64 a) ∧ w'.cell? ⟨w.heap.size, 1, none⟩ = some (.int .i64 b) ∧ w'.cell? ⟨w.heap.size, 2, none⟩ = some (.int .i64 c) ∧ w'.cell? ⟨w.heap.size, 3, none⟩ = some (.int .i64 d) ∧ w'.cell? ⟨w.heap.size, 4, none⟩ = some (.int .i64 k))
      ((refine G0.out _ ?_; go_grown))
      (first | (go_at_call 115; refine (turnLeaf_any _ _ _ _ _ _ _ HX (by exact G2.out _ (by go_grown))).mono ?_; rintro e wA ⟨rfl, hb⟩; rw [show rotn (m % 8).toNat ⟨a, b, c, d⟩ = ⟨y0, y1, y2, y3⟩ from HP.out]; have HDwA : Below w1.heap.size w1 wA := Below.trans (by go_grown) (hb.mono (by first | omega | (simp; done) | (simp; omega))); have HExA := HDwA.mono (show w.heap.size + 1 ≤ w1.heap.size by omega); have hzA := HDwA.size; clear hb) | (go_at_call 110; rw [HN.out]; refine (reduced_any _ _ _ _ _ _ hbd HK).mono ?_; rintro e wB ⟨rfl, hb⟩; rw [HM.out]; unfold Ret5; (try simp only); have HDwB : Below w1.heap.size w1 wB := Below.trans (by go_grown) (hb.mono (by first | omega | (simp; done) | (simp; omega))); have HExB := HDwB.mono (show w.heap.size + 1 ≤ w1.heap.size by omega); have HEzB := HDwB.mono (show w.heap.size ≤ w1.heap.size by omega); have hzB := HDwB.size; obtain ⟨⟨_, _, _, _, _⟩, _, _, _, _, _⟩ := G1.out _ HDwB; clear hb))
    all_goals
      go_wp2_with fail
      refine bodyPost_ret (v := .tuple #[.agg #[.int .i64 x', .int .i64 y', .int .i64 z', .int .i64 u', .int .i64 v'], .int .i64 er]) (by simp [results, Try.results114, go_sem, *]) rfl ⟨?_, ?_⟩
      · rw [hE.out, HP.out, HM.out]; rfl
      · exact D1.trans (by go_grown)
end Go.Proofs.Ytgbnpnenejgnnaa

namespace Amp
def halveS (z : Nm) (n : Int) : Nm × Int := if vld z = true then (if 0 ≤ n ∧ n ≤ 100 then made z.v (z.k + n).toNat else (N0, 2)) else (N0, 10)
theorem halveS_bad {z : Nm} {n : Int} (h : vld z = false) : halveS z n = (N0, 10) := by unfold halveS; rw [h]; rfl
theorem halveS_arg {z : Nm} {n : Int} (h : vld z = true) (hn : ¬ (0 ≤ n ∧ n ≤ 100)) : halveS z n = (N0, 2) := by unfold halveS; rw [if_pos h, if_neg hn]
theorem halveS_ok {z : Nm} {n : Int} (h : vld z = true) (hn : 0 ≤ n ∧ n ≤ 100) : halveS z n = made z.v (z.k + n).toNat := by unfold halveS; rw [if_pos h, if_pos hn]
end Amp
namespace Go.Proofs.Ytgbnpnenejgnnaa
open Go.RowKit Amp
attribute [local go_sem] ix0 ix1 ix2 ix3 jx0 jx1 jx2 jx3

set_option maxHeartbeats 1000000 in
theorem Turn_any (a b c d k : Int) (n : Int) (w : World) :
    Calls Try.prog 61 #[.agg #[.int .i64 a, .int .i64 b, .int .i64 c, .int .i64 d, .int .i64 k], .int .i64 n] w fun e w' => e = Ret5 (chgS ⟨⟨a, b, c, d⟩, k⟩ (fun x => rotn (n % 8).toNat x)) ∧ Below w.heap.size w w' := by
  obtain ⟨x', y', z', u', v', er, HM⟩ := res5 (chgS ⟨⟨a, b, c, d⟩, k⟩ (fun x => rotn (n % 8).toNat x))
  go_enter Try.func61, Try.ntmps61
  go_wp2_with fail
  refine (changed_turn _ _ _ _ _ (w.heap.size + 1) n _ (by rw [World.cell?_alloc_lt _ _ _ (by simp)]; simp)).mono ?_
  rintro e w1 ⟨rfl, hb1⟩
  obtain ⟨⟨q0, q1, q2, q3, q4⟩, r0, r1, r2, r3, r4⟩ : Has5 w1 (w.heap.size + 1 + 1) 0 0 0 0 0 := Has5.keep (by refine ⟨⟨?_, ?_, ?_, ?_, ?_⟩, ?_, ?_, ?_, ?_, ?_⟩ <;> go_cell) hb1 (by first | omega | (simp; done) | (simp; omega))
  have D1 : Below w.heap.size w w1 := Below.trans (by go_grown) (hb1.mono (by first | omega | (simp; done) | (simp; omega)))
  clear hb1
  rw [HM.out]
  unfold Ret5
  (try simp only)
  go_wp2_with fail
  refine bodyPost_ret (v := .tuple #[.agg #[.int .i64 x', .int .i64 y', .int .i64 z', .int .i64 u', .int .i64 v'], .int .i64 er]) (by simp [results, Try.results61, go_sem, *]) rfl ⟨by rw [HM.out]; rfl, by go_grown⟩

end Go.Proofs.Ytgbnpnenejgnnaa
