import Derived.Test.YtkcbkcgampoclaaS
import Derived.Deep.RegionHeld3
namespace Amp
def chgS (z : Nm) (g : C4 → C4) : Nm × Int := if vld z = true then made (g z.v) z.k.toNat else (N0, 10)
theorem neg_bd {x : C4} {B : Int} (h : big B x) : big B (neg x) := by
  obtain ⟨⟨a1, a2⟩, ⟨b1, b2⟩, ⟨c1, c2⟩, ⟨d1, d2⟩⟩ := h
  refine ⟨⟨?_, ?_⟩, ⟨?_, ?_⟩, ⟨?_, ?_⟩, ⟨?_, ?_⟩⟩ <;> simp only [neg] <;> omega
theorem conj_bd {x : C4} {B : Int} (h : big B x) : big B (conj x) := by
  obtain ⟨⟨a1, a2⟩, ⟨b1, b2⟩, ⟨c1, c2⟩, ⟨d1, d2⟩⟩ := h
  refine ⟨⟨?_, ?_⟩, ⟨?_, ?_⟩, ⟨?_, ?_⟩, ⟨?_, ?_⟩⟩ <;> simp only [conj] <;> omega
theorem flp_bd {x : C4} {B : Int} (h : big B x) : big B (flp x) := by
  obtain ⟨⟨a1, a2⟩, ⟨b1, b2⟩, ⟨c1, c2⟩, ⟨d1, d2⟩⟩ := h
  refine ⟨⟨?_, ?_⟩, ⟨?_, ?_⟩, ⟨?_, ?_⟩, ⟨?_, ?_⟩⟩ <;> simp only [flp] <;> omega
theorem flip_bd {x : C4} {B k : Int} (h : big B x) : big B (flipV x k) := by
  unfold flipV; split
  · exact neg_bd (flp_bd h)
  · exact flp_bd h
theorem turn_bd {x : C4} {B m : Int} (h : big B x) : big B (rotn (m % 8).toNat x) := rotn_bd _ h
end Amp
namespace Go.Proofs.Ytkcbkcgampoclaa
open Go.RowKit Amp
attribute [local go_sem] ix0 ix1 ix2 ix3

set_option maxHeartbeats 2000000 in
theorem changed_conj (a b c d k : Int) (w : World) :
    Calls Try.prog 53 #[.agg #[.int .i64 a, .int .i64 b, .int .i64 c, .int .i64 d, .int .i64 k], .func (Fn.func 55) #[] #[]] w fun e w' => e = Ret5 (chgS ⟨⟨a, b, c, d⟩, k⟩ (conj)) ∧ Below w.heap.size w w' := by
  cases hv : vld ⟨⟨a, b, c, d⟩, k⟩
  · go_enter Try.func53, Try.ntmps53
    go_wp2_with fail
    refine (check1 _ _ ⟨⟨a, b, c, d⟩, k⟩ _ (by refine ⟨?_, ?_, ?_, ?_, ?_⟩ <;> go_cell)).mono ?_
    rintro e w1 ⟨rfl, hb1⟩
    obtain ⟨⟨q0, q1, q2, q3, q4⟩, r0, r1, r2, r3, r4⟩ : Has5 w1 (w.heap.size + 1) 0 0 0 0 0 := Has5.keep (by refine ⟨⟨?_, ?_, ?_, ?_, ?_⟩, ?_, ?_, ?_, ?_, ?_⟩ <;> go_cell) hb1 (by first | omega | (simp; done) | (simp; omega))
    have D1 : Below w.heap.size w w1 := Below.trans (by go_grown) (hb1.mono (by first | omega | (simp; done) | (simp; omega)))
    clear hb1
    rw [chk1_bad hv]
    go_wp2_with fail
    refine bodyPost_ret (v := .tuple #[.agg #[.int .i64 0, .int .i64 0, .int .i64 0, .int .i64 0, .int .i64 0], .int .i64 10]) (by simp [results, Try.results53, go_sem, *]) rfl ⟨?_, by go_grown⟩
    unfold chgS; rw [hv]; rfl
  · have hE : chgS ⟨⟨a, b, c, d⟩, k⟩ (conj) = made ((conj) ⟨a, b, c, d⟩) k.toNat := by unfold chgS; rw [hv]; rfl
    have hE := Lib.hid hE
    have HX := vld_sm hv
    have hk0 := (vld_k hv).1
    have hk1 := (vld_k hv).2
    simp only at hk0 hk1 HX
    go_enter Try.func53, Try.ntmps53
    go_wp2_with fail
    refine (check1 _ _ ⟨⟨a, b, c, d⟩, k⟩ _ (by refine ⟨?_, ?_, ?_, ?_, ?_⟩ <;> go_cell)).mono ?_
    rintro e w1 ⟨rfl, hb1⟩
    have A1 : Has5 w1 w.heap.size a b c d k := Has5.keep (by refine ⟨⟨?_, ?_, ?_, ?_, ?_⟩, ?_, ?_, ?_, ?_, ?_⟩ <;> go_cell) hb1 (by first | omega | (simp; done) | (simp; omega))
    have C1 : Has5 w1 (w.heap.size + 1) 0 0 0 0 0 := Has5.keep (by refine ⟨⟨?_, ?_, ?_, ?_, ?_⟩, ?_, ?_, ?_, ?_, ?_⟩ <;> go_cell) hb1 (by first | omega | (simp; done) | (simp; omega))
    have D1 : Below w.heap.size w w1 := Below.trans (by go_grown) (hb1.mono (by first | omega | (simp; done) | (simp; omega)))
    have s1 : w.heap.size + 2 ≤ w1.heap.size := by have := hb1.size; simp at this; omega
    clear hb1
    rw [chk1_ok hv]
    clear hv
    go_wp2_with fail
    have G0 : ∀ w', Below (w.heap.size + 1) w1 w' → w'.cell? ⟨w.heap.size, 0, none⟩ = some (.int .i64 a) ∧ w'.cell? ⟨w.heap.size, 1, none⟩ = some (.int .i64 b) ∧ w'.cell? ⟨w.heap.size, 2, none⟩ = some (.int .i64 c) ∧ w'.cell? ⟨w.heap.size, 3, none⟩ = some (.int .i64 d) ∧ w'.cell? ⟨w.heap.size, 4, none⟩ = some (.int .i64 k) := by
      intro w' hb
      obtain ⟨⟨a0, a1, a2, a3, a4⟩, _⟩ := A1
      have e := fun o => hb.cell (p := ⟨w.heap.size, o, none⟩) (by simp only; omega)
      exact ⟨(e 0).trans a0, (e 1).trans a1, (e 2).trans a2, (e 3).trans a3, (e 4).trans a4⟩
    have G1 : ∀ w', Below w1.heap.size w1 w' → Has5 w' (w.heap.size + 1) 0 0 0 0 0 := fun w' hb => C1.keep hb (by omega)
    have G0 := Lib.hid G0
    have G1 := Lib.hid G1
    obtain ⟨y0, y1, y2, y3, HP⟩ : ∃ y0 y1 y2 y3, Hid ((conj) ⟨a, b, c, d⟩ = ⟨y0, y1, y2, y3⟩) := ⟨_, _, _, _, rfl⟩
    have hbd : big 4611686018427387903 ⟨y0, y1, y2, y3⟩ := by rw [← HP.out]; exact big_mono (conj_bd HX) (by omega)
    have hnat : k = ((k.toNat : Nat) : Int) := by omega
    have HN := Lib.hid hnat
    have HK : k.toNat ≤ 10000 := by omega
    clear hnat
    obtain ⟨x', y', z', u', v', er, HM⟩ := res5 (made ⟨y0, y1, y2, y3⟩ k.toNat)
    go_region_held3 (fun w' => w'.cell? ⟨w.heap.size, 0, none⟩ = some (.int .i64 a) ∧ w'.cell? ⟨w.heap.size, 1, none⟩ = some (.int .i64 b) ∧ w'.cell? ⟨w.heap.size, 2, none⟩ = some (.int .i64 c) ∧ w'.cell? ⟨w.heap.size, 3, none⟩ = some (.int .i64 d) ∧ w'.cell? ⟨w.heap.size, 4, none⟩ = some (.int .i64 k))
      ((refine G0.out _ ?_; go_grown))
      (first | (go_at_call 55; refine (conjugate_any _ _ _ _ _ (big_mono HX (by omega))).mono ?_; rintro e wA ⟨rfl, hb⟩; have hp := HP.out; simp only [conj, C4.mk.injEq] at hp; obtain ⟨hp0, hp1, hp2, hp3⟩ := hp; rw [hp1, hp2, hp3]; subst hp0; clear hp1 hp2 hp3; have HDwA : Below w1.heap.size w1 wA := Below.trans (by go_grown) (hb.mono (by first | omega | (simp; done) | (simp; omega))); have HExA := HDwA.mono (show w.heap.size + 1 ≤ w1.heap.size by omega); have hzA := HDwA.size; clear hb) | (go_at_call 57; rw [HN.out]; refine (reduced_any _ _ _ _ _ _ hbd HK).mono ?_; rintro e wB ⟨rfl, hb⟩; rw [HM.out]; unfold Ret5; (try simp only); have HDwB : Below w1.heap.size w1 wB := Below.trans (by go_grown) (hb.mono (by first | omega | (simp; done) | (simp; omega))); have HExB := HDwB.mono (show w.heap.size + 1 ≤ w1.heap.size by omega); have HEzB := HDwB.mono (show w.heap.size ≤ w1.heap.size by omega); have hzB := HDwB.size; obtain ⟨⟨_, _, _, _, _⟩, _, _, _, _, _⟩ := G1.out _ HDwB; clear hb))
    all_goals
      go_wp2_with fail
      refine bodyPost_ret (v := .tuple #[.agg #[.int .i64 x', .int .i64 y', .int .i64 z', .int .i64 u', .int .i64 v'], .int .i64 er]) (by simp [results, Try.results53, go_sem, *]) rfl ⟨?_, ?_⟩
      · rw [hE.out, HP.out, HM.out]; rfl
      · exact D1.trans (by go_grown)

set_option maxHeartbeats 2000000 in
theorem changed_turn (a b c d k : Int) (n : Nat) (m : Int) (w : World) (hk : w.cell? ⟨n, 0, none⟩ = some (.int .i64 m)) :
    Calls Try.prog 53 #[.agg #[.int .i64 a, .int .i64 b, .int .i64 c, .int .i64 d, .int .i64 k], .func (Fn.func 54) #[] #[.pointer (some ⟨n, 0, none⟩)]] w fun e w' => e = Ret5 (chgS ⟨⟨a, b, c, d⟩, k⟩ (fun x => rotn (m % 8).toNat x)) ∧ Below w.heap.size w w' := by
  have hlt := World.block_lt_of_cell? w _ hk
  simp only at hlt
  have hcell := hk
  have hlt2 : n < w.heap.size + 1 := by omega
  have hlt3 : n < w.heap.size + 1 + 1 := by omega
  have hlt4 : n < w.heap.size + 1 + 1 + 1 := by omega
  cases hv : vld ⟨⟨a, b, c, d⟩, k⟩
  · go_enter Try.func53, Try.ntmps53
    go_wp2_with fail
    refine (check1 _ _ ⟨⟨a, b, c, d⟩, k⟩ _ (by refine ⟨?_, ?_, ?_, ?_, ?_⟩ <;> go_cell)).mono ?_
    rintro e w1 ⟨rfl, hb1⟩
    obtain ⟨⟨q0, q1, q2, q3, q4⟩, r0, r1, r2, r3, r4⟩ : Has5 w1 (w.heap.size + 1) 0 0 0 0 0 := Has5.keep (by refine ⟨⟨?_, ?_, ?_, ?_, ?_⟩, ?_, ?_, ?_, ?_, ?_⟩ <;> go_cell) hb1 (by first | omega | (simp; done) | (simp; omega))
    have D1 : Below w.heap.size w w1 := Below.trans (by go_grown) (hb1.mono (by first | omega | (simp; done) | (simp; omega)))
    clear hb1
    rw [chk1_bad hv]
    go_wp2_with fail
    refine bodyPost_ret (v := .tuple #[.agg #[.int .i64 0, .int .i64 0, .int .i64 0, .int .i64 0, .int .i64 0], .int .i64 10]) (by simp [results, Try.results53, go_sem, *]) rfl ⟨?_, by go_grown⟩
    unfold chgS; rw [hv]; rfl
  · have hE : chgS ⟨⟨a, b, c, d⟩, k⟩ (fun x => rotn (m % 8).toNat x) = made ((fun x => rotn (m % 8).toNat x) ⟨a, b, c, d⟩) k.toNat := by unfold chgS; rw [hv]; rfl
    have hE := Lib.hid hE
    have HX := vld_sm hv
    have hk0 := (vld_k hv).1
    have hk1 := (vld_k hv).2
    simp only at hk0 hk1 HX
    go_enter Try.func53, Try.ntmps53
    go_wp2_with fail
    refine (check1 _ _ ⟨⟨a, b, c, d⟩, k⟩ _ (by refine ⟨?_, ?_, ?_, ?_, ?_⟩ <;> go_cell)).mono ?_
    rintro e w1 ⟨rfl, hb1⟩
    have A1 : Has5 w1 w.heap.size a b c d k := Has5.keep (by refine ⟨⟨?_, ?_, ?_, ?_, ?_⟩, ?_, ?_, ?_, ?_, ?_⟩ <;> go_cell) hb1 (by first | omega | (simp; done) | (simp; omega))
    have C1 : Has5 w1 (w.heap.size + 1) 0 0 0 0 0 := Has5.keep (by refine ⟨⟨?_, ?_, ?_, ?_, ?_⟩, ?_, ?_, ?_, ?_, ?_⟩ <;> go_cell) hb1 (by first | omega | (simp; done) | (simp; omega))
    have D1 : Below w.heap.size w w1 := Below.trans (by go_grown) (hb1.mono (by first | omega | (simp; done) | (simp; omega)))
    have s1 : w.heap.size + 2 ≤ w1.heap.size := by have := hb1.size; simp at this; omega
    clear hb1
    rw [chk1_ok hv]
    clear hv
    go_wp2_with fail
    have G0 : ∀ w', Below (w.heap.size + 1) w1 w' → w'.cell? ⟨w.heap.size, 0, none⟩ = some (.int .i64 a) ∧ w'.cell? ⟨w.heap.size, 1, none⟩ = some (.int .i64 b) ∧ w'.cell? ⟨w.heap.size, 2, none⟩ = some (.int .i64 c) ∧ w'.cell? ⟨w.heap.size, 3, none⟩ = some (.int .i64 d) ∧ w'.cell? ⟨w.heap.size, 4, none⟩ = some (.int .i64 k) := by
      intro w' hb
      obtain ⟨⟨a0, a1, a2, a3, a4⟩, _⟩ := A1
      have e := fun o => hb.cell (p := ⟨w.heap.size, o, none⟩) (by simp only; omega)
      exact ⟨(e 0).trans a0, (e 1).trans a1, (e 2).trans a2, (e 3).trans a3, (e 4).trans a4⟩
    have G1 : ∀ w', Below w1.heap.size w1 w' → Has5 w' (w.heap.size + 1) 0 0 0 0 0 := fun w' hb => C1.keep hb (by omega)
    have G0 := Lib.hid G0
    have G1 := Lib.hid G1
    have G2 : ∀ w', Below w1.heap.size w1 w' → w'.cell? ⟨n, 0, none⟩ = some (.int .i64 m) := fun w' hb => (hb.cell (p := ⟨n, 0, none⟩) (by simp only; omega)).trans ((D1.cell (p := ⟨n, 0, none⟩) hlt).trans hcell)
    have G2 := Lib.hid G2
    obtain ⟨y0, y1, y2, y3, HP⟩ : ∃ y0 y1 y2 y3, Hid ((fun x => rotn (m % 8).toNat x) ⟨a, b, c, d⟩ = ⟨y0, y1, y2, y3⟩) := ⟨_, _, _, _, rfl⟩
    have hbd : big 4611686018427387903 ⟨y0, y1, y2, y3⟩ := by rw [← HP.out]; exact big_mono (turn_bd HX) (by omega)
    have hnat : k = ((k.toNat : Nat) : Int) := by omega
    have HN := Lib.hid hnat
    have HK : k.toNat ≤ 10000 := by omega
    clear hnat
    obtain ⟨x', y', z', u', v', er, HM⟩ := res5 (made ⟨y0, y1, y2, y3⟩ k.toNat)
    go_region_held3 (fun w' => w'.cell? ⟨w.heap.size, 0, none⟩ = some (.int .i64 a) ∧ w'.cell? ⟨w.heap.size, 1, none⟩ = some (.int .i64 b) ∧ w'.cell? ⟨w.heap.size, 2, none⟩ = some (.int .i64 c) ∧ w'.cell? ⟨w.heap.size, 3, none⟩ = some (.int .i64 d) ∧ w'.cell? ⟨w.heap.size, 4, none⟩ = some (.int .i64 k))
      ((refine G0.out _ ?_; go_grown))
      (first | (go_at_call 54; refine (turnLeaf_any _ _ _ _ _ _ _ HX (by exact G2.out _ (by go_grown))).mono ?_; rintro e wA ⟨rfl, hb⟩; rw [show rotn (m % 8).toNat ⟨a, b, c, d⟩ = ⟨y0, y1, y2, y3⟩ from HP.out]; have HDwA : Below w1.heap.size w1 wA := Below.trans (by go_grown) (hb.mono (by first | omega | (simp; done) | (simp; omega))); have HExA := HDwA.mono (show w.heap.size + 1 ≤ w1.heap.size by omega); have hzA := HDwA.size; clear hb) | (go_at_call 57; rw [HN.out]; refine (reduced_any _ _ _ _ _ _ hbd HK).mono ?_; rintro e wB ⟨rfl, hb⟩; rw [HM.out]; unfold Ret5; (try simp only); have HDwB : Below w1.heap.size w1 wB := Below.trans (by go_grown) (hb.mono (by first | omega | (simp; done) | (simp; omega))); have HExB := HDwB.mono (show w.heap.size + 1 ≤ w1.heap.size by omega); have HEzB := HDwB.mono (show w.heap.size ≤ w1.heap.size by omega); have hzB := HDwB.size; obtain ⟨⟨_, _, _, _, _⟩, _, _, _, _, _⟩ := G1.out _ HDwB; clear hb))
    all_goals
      go_wp2_with fail
      refine bodyPost_ret (v := .tuple #[.agg #[.int .i64 x', .int .i64 y', .int .i64 z', .int .i64 u', .int .i64 v'], .int .i64 er]) (by simp [results, Try.results53, go_sem, *]) rfl ⟨?_, ?_⟩
      · rw [hE.out, HP.out, HM.out]; rfl
      · exact D1.trans (by go_grown)
end Go.Proofs.Ytkcbkcgampoclaa
