import Derived.Test.YtdhlikedjephmaaHr
import Derived.Test.YtdhlikedjephmaaHi
namespace Go.Proofs.Ytdhlikedjephmaa
open Go.RowKit Heat
/-- A list of n ratios. -/
def Ratw (w : World) (g n : Nat) (P Q : Nat → Int) : Prop := ∀ i, i < n → (w.cell? ⟨g, i * 2, none⟩ = some (.int .i64 (P i)) ∧ w.cell? ⟨g, i * 2 + 1, none⟩ = some (.int .i64 (Q i))) ∧ w.frozen? ⟨g, i * 2, none⟩ = false ∧ w.frozen? ⟨g, i * 2 + 1, none⟩ = false
theorem Ratw.keep {w w1 : World} {g n : Nat} {P Q : Nat → Int} (h : Ratw w g n P Q) (hb : Below w.heap.size w w1) : Ratw w1 g n P Q := by
  intro i hi
  obtain ⟨⟨a, b⟩, c, d⟩ := h i hi
  have hB : g < w.heap.size := World.block_lt_of_cell? w _ a
  exact ⟨⟨((bcl hb).1 _ _ hB).trans a, ((bcl hb).1 _ _ hB).trans b⟩, ((bcl hb).2 _ _ hB).trans c, ((bcl hb).2 _ _ hB).trans d⟩
theorem Ratw.congr {w : World} {g n : Nat} {P Q P' Q' : Nat → Int} (h : Ratw w g n P Q) (e : ∀ i, i < n → P i = P' i ∧ Q i = Q' i) : Ratw w g n P' Q' := fun i hi => by rw [← (e i hi).1, ← (e i hi).2]; exact h i hi
theorem Ratw.store {w : World} {g n : Nat} {P Q : Nat → Int} (h : Ratw w g n P Q) {k : Nat} (hk : k < n) (p q : Int) : Ratw ((w.setCell ⟨g, k * 2, none⟩ (.int .i64 p)).setCell ⟨g, k * 2 + 1, none⟩ (.int .i64 q)) g n (updI P k p) (updI Q k q) := by
  obtain ⟨⟨m0, m1⟩, m2, m3⟩ := h k hk
  intro i hi
  by_cases e : i = k
  · subst e
    rw [updI_at, updI_at]
    have n1 : ¬ i * 2 = i * 2 + 1 := by omega
    have n2 : ¬ i * 2 + 1 = i * 2 := by omega
    exact ⟨⟨by go_cell, by go_cell⟩, by go_cell, by go_cell⟩
  · rw [updI_ne _ _ e, updI_ne _ _ e]
    obtain ⟨⟨a, b⟩, c, d⟩ := h i hi
    have n1 : ¬ k * 2 = i * 2 := by omega
    have n2 : ¬ k * 2 = i * 2 + 1 := by omega
    have n3 : ¬ k * 2 + 1 = i * 2 := by omega
    have n4 : ¬ k * 2 + 1 = i * 2 + 1 := by omega
    exact ⟨⟨by go_cell, by go_cell⟩, by go_cell, by go_cell⟩
theorem infoRat : (Try.prog.info? 68).map (fun i => (i.zero, i.size, i.bytes)) = some (some (.agg #[.int .i64 0, .int .i64 0]), 2, 16) := by kernel_rfl
theorem info_parts {o : Option TypeInfo} {z : Value} {s b : Nat} (h : o.map (fun i => (i.zero, i.size, i.bytes)) = some (some z, s, b)) : ∃ i : TypeInfo, o = some i ∧ i.zero = some z ∧ i.size = s ∧ i.bytes = b := by
  cases o with
  | none => cases h
  | some i =>
    have := Option.some.inj h
    exact ⟨i, rfl, (Prod.mk.inj this).1, (Prod.mk.inj (Prod.mk.inj this).2).1, (Prod.mk.inj (Prod.mk.inj this).2).2⟩
theorem made_two (n j : Nat) (h : j < n * 2) : (madeCells #[Value.int .i64 0, Value.int .i64 0] (n * 2)).toList[j]? = some (.int .i64 0) := by
  rcases Nat.mod_two_eq_zero_or_one j with e | e <;> simp [madeCells, h, e]
theorem Ratw.of_own {w : World} {base : Nat} {e : TypeId} {g n cap : Nat} {P Q : Nat → Int} {xs : List Value} (h : w.ownsRow base e 2 (.slice (some ⟨g, 0, none⟩) n cap) n xs) (hx : ∀ i, i < n → xs[i * 2]? = some (.int .i64 (P i)) ∧ xs[i * 2 + 1]? = some (.int .i64 (Q i))) : Ratw w g n P Q := by
  intro i hi
  exact ⟨⟨(h.cellAt (i * 2) (by omega)).trans (hx i hi).1, (h.cellAt (i * 2 + 1) (by omega)).trans (hx i hi).2⟩, h.frozenAt _, h.frozenAt _⟩
/-- A slice of n ratios of the call's own as a result. -/
def RatsRet (B : Nat) (w : World) (e : Ending) (n : Nat) (P Q : Nat → Int) : Prop := ∃ g cap, e = .returned (.slice (some ⟨g, 0, none⟩) n cap) ∧ Ratw w g n P Q ∧ B ≤ g ∧ g < w.heap.size ∧ n ≤ cap ∧ cap ≤ 9223372036854775807
/-- A list of five numbers in a block. -/
def Liw (w : World) (g : Nat) (C : Nat → Int) : Prop := ∀ j, j < 5 → w.cell? ⟨g, j, none⟩ = some (.int .i64 (C j))
theorem Liw.keep {w w1 : World} {g : Nat} {C : Nat → Int} (h : Liw w g C) (hb : Below w.heap.size w w1) : Liw w1 g C := fun j hj => ((bcl hb).1 _ _ (World.block_lt_of_cell? w _ (h j hj))).trans (h j hj)
set_option maxRecDepth 100000 in
set_option maxHeartbeats 8000000 in
theorem solved_any (n : Nat) (L C : Nat → Int) (d : Int) (w : World) (hn : n ≤ 5) (hd : d.natAbs ≤ 1000000000000000000) (h0 : ¬ d = 0) (hb : ∀ k, k < n → (detN n (wiL k n C L)).natAbs ≤ 1000000000000000000) :
    Calls Try.prog 69 #[sqV n L, liV C, .int .i64 d] w fun e w' => RatsRet w.heap.size w' e n (fun k => ratN (detN n (wiL k n C L)) d) (fun k => ratD (detN n (wiL k n C L)) d) ∧ Below w.heap.size w w' := by
  obtain ⟨i0, hi, hz0, hz1, hz2⟩ := info_parts infoRat
  have HI := Lib.hid (And.intro hi (And.intro hz0 (And.intro hz1 hz2)))
  have HDB := Lib.hid hb
  obtain ⟨P, hP⟩ : ∃ P : Nat → Int, (fun k => ratN (detN n (wiL k n C L)) d) = P := ⟨_, rfl⟩
  obtain ⟨Q, hQ⟩ : ∃ Q : Nat → Int, (fun k => ratD (detN n (wiL k n C L)) d) = Q := ⟨_, rfl⟩
  have HPQ : Hid (∀ k, ratN (detN n (wiL k n C L)) d = P k ∧ ratD (detN n (wiL k n C L)) d = Q k) := Lib.hid (fun k => ⟨congrFun hP k, congrFun hQ k⟩)
  rw [hP, hQ]
  clear hi hz0 hz1 hz2 hb hP hQ
  have HSQ : Hid (Sqw ((w.alloc (Obj.cells #[.int .i64 n, .int .i64 (L 0), .int .i64 (L 1), .int .i64 (L 2), .int .i64 (L 3), .int .i64 (L 4), .int .i64 (L 5), .int .i64 (L 6), .int .i64 (L 7), .int .i64 (L 8), .int .i64 (L 9), .int .i64 (L 10), .int .i64 (L 11), .int .i64 (L 12), .int .i64 (L 13), .int .i64 (L 14), .int .i64 (L 15), .int .i64 (L 16), .int .i64 (L 17), .int .i64 (L 18), .int .i64 (L 19), .int .i64 (L 20), .int .i64 (L 21), .int .i64 (L 22), .int .i64 (L 23), .int .i64 (L 24)] 79)).alloc (Obj.cells #[.int .i64 (C 0), .int .i64 (C 1), .int .i64 (C 2), .int .i64 (C 3), .int .i64 (C 4)] 74)) w.heap.size n L) := Lib.hid (Sqw.fresh (by refine ⟨?_, ?_, ?_, ?_, ?_, ?_, ?_, ?_, ?_, ?_, ?_, ?_, ?_, ?_, ?_, ?_, ?_, ?_, ?_, ?_, ?_, ?_, ?_, ?_, ?_, ?_⟩ <;> go_cell) (by refine ⟨?_, ?_, ?_, ?_, ?_, ?_, ?_, ?_, ?_, ?_, ?_, ?_, ?_, ?_, ?_, ?_, ?_, ?_, ?_, ?_, ?_, ?_, ?_, ?_, ?_, ?_⟩ <;> go_cell))
  have HLI : Hid (Liw ((w.alloc (Obj.cells #[.int .i64 n, .int .i64 (L 0), .int .i64 (L 1), .int .i64 (L 2), .int .i64 (L 3), .int .i64 (L 4), .int .i64 (L 5), .int .i64 (L 6), .int .i64 (L 7), .int .i64 (L 8), .int .i64 (L 9), .int .i64 (L 10), .int .i64 (L 11), .int .i64 (L 12), .int .i64 (L 13), .int .i64 (L 14), .int .i64 (L 15), .int .i64 (L 16), .int .i64 (L 17), .int .i64 (L 18), .int .i64 (L 19), .int .i64 (L 20), .int .i64 (L 21), .int .i64 (L 22), .int .i64 (L 23), .int .i64 (L 24)] 79)).alloc (Obj.cells #[.int .i64 (C 0), .int .i64 (C 1), .int .i64 (C 2), .int .i64 (C 3), .int .i64 (C 4)] 74)) (w.heap.size + 1) C) := Lib.hid (fun j hj => by rcases (show j = 0 ∨ j = 1 ∨ j = 2 ∨ j = 3 ∨ j = 4 by omega) with rfl | rfl | rfl | rfl | rfl <;> go_cell)
  have hb0 : Below w.heap.size w ((w.alloc (Obj.cells #[.int .i64 n, .int .i64 (L 0), .int .i64 (L 1), .int .i64 (L 2), .int .i64 (L 3), .int .i64 (L 4), .int .i64 (L 5), .int .i64 (L 6), .int .i64 (L 7), .int .i64 (L 8), .int .i64 (L 9), .int .i64 (L 10), .int .i64 (L 11), .int .i64 (L 12), .int .i64 (L 13), .int .i64 (L 14), .int .i64 (L 15), .int .i64 (L 16), .int .i64 (L 17), .int .i64 (L 18), .int .i64 (L 19), .int .i64 (L 20), .int .i64 (L 21), .int .i64 (L 22), .int .i64 (L 23), .int .i64 (L 24)] 79)).alloc (Obj.cells #[.int .i64 (C 0), .int .i64 (C 1), .int .i64 (C 2), .int .i64 (C 3), .int .i64 (C 4)] 74)) := by go_grown
  have hsz : w.heap.size + 1 < ((w.alloc (Obj.cells #[.int .i64 n, .int .i64 (L 0), .int .i64 (L 1), .int .i64 (L 2), .int .i64 (L 3), .int .i64 (L 4), .int .i64 (L 5), .int .i64 (L 6), .int .i64 (L 7), .int .i64 (L 8), .int .i64 (L 9), .int .i64 (L 10), .int .i64 (L 11), .int .i64 (L 12), .int .i64 (L 13), .int .i64 (L 14), .int .i64 (L 15), .int .i64 (L 16), .int .i64 (L 17), .int .i64 (L 18), .int .i64 (L 19), .int .i64 (L 20), .int .i64 (L 21), .int .i64 (L 22), .int .i64 (L 23), .int .i64 (L 24)] 79)).alloc (Obj.cells #[.int .i64 (C 0), .int .i64 (C 1), .int .i64 (C 2), .int .i64 (C 3), .int .i64 (C 4)] 74)).heap.size := by simp
  unfold sqV liV
  go_enter Try.func69, Try.ntmps69
  go_upto_region 1 with fail
  generalize ((w.alloc (Obj.cells #[.int .i64 n, .int .i64 (L 0), .int .i64 (L 1), .int .i64 (L 2), .int .i64 (L 3), .int .i64 (L 4), .int .i64 (L 5), .int .i64 (L 6), .int .i64 (L 7), .int .i64 (L 8), .int .i64 (L 9), .int .i64 (L 10), .int .i64 (L 11), .int .i64 (L 12), .int .i64 (L 13), .int .i64 (L 14), .int .i64 (L 15), .int .i64 (L 16), .int .i64 (L 17), .int .i64 (L 18), .int .i64 (L 19), .int .i64 (L 20), .int .i64 (L 21), .int .i64 (L 22), .int .i64 (L 23), .int .i64 (L 24)] 79)).alloc (Obj.cells #[.int .i64 (C 0), .int .i64 (C 1), .int .i64 (C 2), .int .i64 (C 3), .int .i64 (C 4)] 74)) = W at *
  have HB0 := Lib.hid hb0
  have hc0 := HSQ.out.1
  clear hb0
  go_wp2_with (refine wpList_make_full _ rfl (.tmp 10) (.tmp 10) 22 rfl W.heap.size 68 i0 _ 2 Try.underlying22 HI.out.1 HI.out.2.1 HI.out.2.2.1 .i64 .i64 _ _ n rfl rfl (by simp) (by simp) ?c1 ?c2 ?c3 ?_)
  case c1 => rw [HI.out.2.2.2]; omega
  case c2 => unfold maxLen; omega
  case c3 => exact Nat.le_refl _
  intro w1 hown hgrow
  have HW : Hid (Ratw w1 W.heap.size n (fun _ => 0) (fun _ => 0)) := Lib.hid (Ratw.of_own hown fun i hi => ⟨made_two n _ (by omega), made_two n _ (by omega)⟩)
  have hlt1 : W.heap.size < w1.heap.size := (hown.lt _ rfl).2
  have DW : Below W.heap.size W w1 := Below.grown (Below.refl _ _) hgrow (Nat.le_refl _) (fun k hk => by cases hk)
  have HB1 : Hid (Below w.heap.size w w1) := Lib.hid (HB0.out.trans (DW.mono HB0.out.size))
  have HS1 := Lib.hid (HSQ.out.keep DW)
  have HL1 := Lib.hid (HLI.out.keep DW)
  have hgW : w.heap.size + 1 < W.heap.size := hsz
  clear hown hgrow DW HB0 hsz HSQ HLI hc0
  generalize W.heap.size = g at *
  go_wp2_with fail
  go_loopw [14] (fun iv wr => ∃ (z : Int) (k : Nat), iv = .int .i64 z ∧ z = k ∧ k ≤ n ∧ Hid (Ratw wr g n (fun j => if j < k then P j else 0) (fun j => if j < k then Q j else 0)) ∧ Hid (Sqw wr w.heap.size n L) ∧ Hid (Liw wr (w.heap.size + 1) C) ∧ Hid (Below w.heap.size w wr) ∧ g < wr.heap.size) (fun iv _ => n - (intOf iv).toNat)
  case atStart => exact ⟨0, 0, rfl, by omega, by omega, Lib.hid (HW.out.congr fun i _ => ⟨(if_neg (by omega)).symm, (if_neg (by omega)).symm⟩), HS1, HL1, HB1, hlt1⟩
  case round =>
    obtain ⟨z, k, rfl, hz, hk, HR, HS, HL, HB, hsw⟩ := hrel
    by_cases hlt : k < n
    · have hlt' : z < (n : Int) := by omega
      subst hz
      have k0 : (0 : Int) ≤ (k : Int) := by omega
      have wz : wrap64 ((k : Int) + 1) = (k : Int) + 1 := by simp only [wrap64]; omega
      have HRG := Lib.hid HS.out.range
      obtain ⟨l0, l1, l2, l3, l4⟩ : _ ∧ _ ∧ _ ∧ _ ∧ _ := ⟨HL.out 0 (by omega), HL.out 1 (by omega), HL.out 2 (by omega), HL.out 3 (by omega), HL.out 4 (by omega)⟩
      have wn1 : w.heap.size + 1 < wr.heap.size := by omega
      clear HW HS1 HL1 HB1 hlt1
      go_upto_region 5 with fail
      refine wp_region_lit ?_
      refine wpList_step (fun K hK => ?_); go_simp; refine hK _ _ ?_; clear hK K
      refine wpList_step (fun K hK => ?_); go_simp; refine hK _ _ ?_; clear hK K
      (refine wpList_load_mid rfl 79 _ rfl w.heap.size 0 rfl (sqL n L) _ HRG.out Try.underlying79 rfl (infoSq n L) ?_)
      refine wpList_step (fun K hK => ?_); go_simp; refine hK _ _ ?_; clear hK K
      refine wpList_step (fun K hK => ?_); go_simp; refine hK _ _ ?_; clear hK K
      refine wpList_step (fun K hK => ?_); go_simp
      refine (with_any n k L C _ hn (by omega)).mono ?_
      rintro e w1_ ⟨rfl, hb⟩
      have B1 : Below wr.heap.size wr w1_ := hb
      clear hb
      refine hK _ _ ?_; clear hK K
      refine wpList_step (fun K hK => ?_); go_simp
      refine (det_any n (wiL k n C L) _ hn).mono ?_
      rintro e w2_ ⟨rfl, hb⟩
      have B2 : Below wr.heap.size wr w2_ := B1.trans (hb.mono B1.size)
      clear hb B1
      refine hK _ _ ?_; clear hK K
      refine wpList_step (fun K hK => ?_); go_simp; refine hK _ _ ?_; clear hK K
      refine wpList_step (fun K hK => ?_); go_simp
      refine (ratio_any (detN n (wiL k n C L)) d _ (HDB.out k hlt) hd h0).mono ?_
      rintro e w3_ ⟨rfl, hb⟩
      rw [(HPQ.out k).1, (HPQ.out k).2]
      have B3 : Below wr.heap.size wr w3_ := B2.trans (hb.mono B2.size)
      clear hb B2
      refine hK _ _ ?_; clear hK K
      refine wpList_step (fun K hK => ?_); go_simp; refine hK _ _ ?_; clear hK K
      have HR3 := Lib.hid (HR.out.keep B3)
      have HS3 := Lib.hid (HS.out.keep B3)
      have HL3 := Lib.hid (HL.out.keep B3)
      have HB3 := Lib.hid (HB.out.trans (B3.mono HB.out.size))
      have hs3 : g < w3_.heap.size := by have := B3.size; omega
      clear HR HS HL HB B3 HRG l0 l1 l2 l3 l4
      obtain ⟨⟨m0, m1⟩, m2, m3⟩ := HR3.out k hlt
      refine wpList_step (fun K hK => ?_); go_simp; refine hK _ _ ?_; clear hK K
      clear m0 m1 m2 m3
      have HRN := Lib.hid (HR3.out.store hlt (P k) (Q k))
      have HRN2 : Hid (Ratw ((w3_.setCell ⟨g, k * 2, none⟩ (.int .i64 (P k))).setCell ⟨g, k * 2 + 1, none⟩ (.int .i64 (Q k))) g n (fun j => if j < k + 1 then P j else 0) (fun j => if j < k + 1 then Q j else 0)) := Lib.hid (HRN.out.congr fun i hi => by
        unfold updI
        by_cases e : i = k
        · rw [if_pos e, if_pos e, if_pos (by omega), if_pos (by omega), e]; exact ⟨rfl, rfl⟩
        · rw [if_neg e, if_neg e]
          dsimp only
          by_cases e2 : i < k
          · rw [if_pos e2, if_pos e2, if_pos (by omega), if_pos (by omega)]; exact ⟨rfl, rfl⟩
          · rw [if_neg e2, if_neg e2, if_neg (by omega), if_neg (by omega)]; exact ⟨rfl, rfl⟩)
      have HSN := Lib.hid ((HS3.out.other (m := g) (o := k * 2) (v := .int .i64 (P k)) (by omega)).other (m := g) (o := k * 2 + 1) (v := .int .i64 (Q k)) (by omega))
      have HLN : Hid (Liw ((w3_.setCell ⟨g, k * 2, none⟩ (.int .i64 (P k))).setCell ⟨g, k * 2 + 1, none⟩ (.int .i64 (Q k))) (w.heap.size + 1) C) := Lib.hid (fun j hj => by have := HL3.out j hj; have hne : ¬ g = w.heap.size + 1 := (by omega); go_cell)
      have HBN : Hid (Below w.heap.size w ((w3_.setCell ⟨g, k * 2, none⟩ (.int .i64 (P k))).setCell ⟨g, k * 2 + 1, none⟩ (.int .i64 (Q k)))) := Lib.hid ((HB3.out.setCell (p := ⟨g, k * 2, none⟩) (by simp only; omega) _).setCell (p := ⟨g, k * 2 + 1, none⟩) (by simp only; omega) _)
      have hsn : g < ((w3_.setCell ⟨g, k * 2, none⟩ (.int .i64 (P k))).setCell ⟨g, k * 2 + 1, none⟩ (.int .i64 (Q k))).heap.size := by simpa using hs3
      generalize ((w3_.setCell ⟨g, k * 2, none⟩ (.int .i64 (P k))).setCell ⟨g, k * 2 + 1, none⟩ (.int .i64 (Q k))) = wn at *
      clear HR3 HS3 HL3 HB3 hs3 HRN
      refine wpList_nil ?_
      go_wp2_with fail
      go_roundw
      case rel => exact ⟨(k : Int) + 1, k + 1, by first | rfl | rw [wz], by omega, by omega, HRN2, HSN, HLN, HBN, hsn⟩
      case measure => first | (simp [intOf]; done) | (simp [intOf]; omega)
    · obtain rfl : k = n := by omega
      go_wp2_with fail
      go_returns
      exact ⟨⟨g, k, rfl, HR.out.congr fun i hi => ⟨if_pos hi, if_pos hi⟩, by omega, hsw, Nat.le_refl _, by omega⟩, HB.out⟩
end Go.Proofs.Ytdhlikedjephmaa
