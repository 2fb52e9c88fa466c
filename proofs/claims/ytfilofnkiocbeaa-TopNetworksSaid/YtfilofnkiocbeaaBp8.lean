import Derived.Test.YtfilofnkiocbeaaBm8
namespace Go.Proofs.Ytfilofnkiocbeaa
open Go.RowKit Ben
set_option maxRecDepth 100000 in
set_option maxHeartbeats 4000000 in
theorem mirrored_zero (g o cap : Nat) (f : Nat → Bool) (w : World) (hU : Bl w g o (cn 0) f) :
    Calls Try.prog 65 #[.int .i64 (sz 0 : Nat), .slice (some ⟨g, o, none⟩) (cn 0) cap] w fun e w' => OwnRet_B w.heap.size w' e (cn 0) (cellsB (fun j => f (mi 0 j)) (cn 0)) ∧ Below w.heap.size w w' := by
  show Calls Try.prog 65 #[.int .i64 2, .slice (some ⟨g, o, none⟩) 1 cap] w _
  obtain ⟨i0, hi, hz0, hz1, hz2⟩ := info_parts infoBool
  have HI := Lib.hid (And.intro hi (And.intro hz0 (And.intro hz1 hz2)))
  have HU := Lib.hid hU
  clear hU hi hz0 hz1 hz2
  go_enter Try.func65, Try.ntmps65
  go_wp2_with (at_builtin; refine wpList_append_own _ rfl (.tmp 9) (.tmp 10) 27 rfl w.heap.size 4 i0 _ 1 1 Try.underlying27 HI.out.1 HI.out.2.1 HI.out.2.2.1 HI.out.2.2.2 rfl (by decide) _ 0 [] rfl (World.ownsRow_made w #[] 0 (Nat.le_refl _) (by unfold maxLen; omega) rfl) ⟨g, o, none⟩ 1 cap (cellsB f 1) rfl ?c0 ?c1 ?c2 ?c3 ?c4 ?c5 ?_)
  try (case c0 => rfl)
  case c1 =>
    intro j u hu
    have hj : j < 1 := by have := (List.getElem?_eq_some_iff.1 hu).1; rwa [cellsB_len] at this
    rw [cellsB_get f hj] at hu
    rw [Addr.add_lit, ← hu]
    have hb : g < w.heap.size := World.block_lt_of_cell? w _ (HU.out j hj)
    exact (((Below.refl _ _).alloc (Nat.le_refl _) _).cell (p := ⟨g, o + j, none⟩) hb).trans (HU.out j hj)
  case c2 => exact cellsB_one f 1
  case c3 => unfold maxLen; omega
  case c4 => omega
  try (case c5 => first | omega | (simp; done) | (simp; omega))
  intro v' w2 hown hgrow _
  (try simp only [Nat.zero_add, List.nil_append] at hown)
  have HW : Hid (w2.ownsRow w.heap.size 4 1 v' (cn 0) (cellsB (fun j => f (mi 0 j)) (cn 0))) := Lib.hid hown
  have D2 : Below w.heap.size w w2 := Below.grown (by go_grown) hgrow (by first | omega | (simp; done) | (simp; omega)) (fun k hk => by simp [Value.ownBlock] at hk; omega)
  clear hown hgrow
  go_wp2_with fail
  go_returns
  exact ⟨⟨_, rfl, HW.out⟩, D2⟩
set_option maxRecDepth 100000 in
set_option maxHeartbeats 16000000 in
theorem mirrored_succ (k : Nat) (hk : k ≤ 2) (ih : ∀ (g o cap : Nat) (f : Nat → Bool) (w : World), cn k ≤ cap → cap ≤ 9223372036854775807 → Bl w g o (cn k) f → Calls Try.prog 65 #[.int .i64 (sz k : Nat), .slice (some ⟨g, o, none⟩) (cn k) cap] w fun e w' => OwnRet_B w.heap.size w' e (cn k) (cellsB (fun j => f (mi k j)) (cn k)) ∧ Below w.heap.size w w')
    (g o cap : Nat) (f : Nat → Bool) (w : World) (hc : cn (k + 1) ≤ cap) (hm : cap ≤ 9223372036854775807) (hU : Bl w g o (cn (k + 1)) f) :
    Calls Try.prog 65 #[.int .i64 (sz (k + 1) : Nat), .slice (some ⟨g, o, none⟩) (cn (k + 1)) cap] w fun e w' => OwnRet_B w.heap.size w' e (cn (k + 1)) (cellsB (fun j => f (mi (k + 1) j)) (cn (k + 1))) ∧ Below w.heap.size w w' := by
  obtain ⟨i0, hi, hz0, hz1, hz2⟩ := info_parts infoBool
  have HI := Lib.hid (And.intro hi (And.intro hz0 (And.intro hz1 hz2)))
  have hs2 : sz (k + 1) = 2 * sz k := rfl
  have hc2 : cn (k + 1) = sz (k + 1) + 2 * cn k := rfl
  have hp := cn_pos k
  have hsp := sz_pos k
  have hs16 := sz_le (show k + 1 ≤ 3 by omega)
  have hc56 := cn_le (show k + 1 ≤ 3 by omega)
  obtain ⟨y, hy⟩ : ∃ y, sz (k + 1) + cn k = y := ⟨_, rfl⟩
  have HMP : Hid (cellsB (fun j => f (mi (k + 1) j)) (cn (k + 1)) = ((cellsB (fun j => f (sz k + j)) (sz k) ++ cellsB f (sz k)) ++ cellsB (fun j => f (sz (k + 1) + mi k j)) (cn k)) ++ cellsB (fun j => f (y + mi k j)) (cn k)) := Lib.hid (by rw [← hy]; exact mir_parts f k)
  have hL : sz k + sz k + cn k + cn k = cn (k + 1) := by omega
  have HL := Lib.hid hL
  have e0 : (((sz (k + 1) : Nat) : Int) == 2) = false := beq_eq_false_iff_ne.2 (by omega)
  have e1 : ((sz (k + 1) : Nat) : Int) / 2 = ((sz k : Nat) : Int) := by omega
  have e5 : ((sz (k + 1) : Nat) : Int) + ((cn k : Nat) : Int) = (y : Int) := by omega
  have e6 : y - sz (k + 1) = cn k := by omega
  have e7 : sz (k + 1) - sz k = sz k := by omega
  have e8 : cn (k + 1) - y = cn k := by omega
  have b1 : sz k ≤ sz (k + 1) := by omega
  have b2 : sz (k + 1) ≤ cap := by omega
  have b3 : sz (k + 1) ≤ y := by omega
  have b4 : y ≤ cap := by omega
  have b5 : y ≤ cn (k + 1) := by omega
  have b6 : ¬ cap = y := by omega
  have b7 : ¬ cap = sz (k + 1) := by omega
  have b8 : ¬ cap = sz k := by omega
  have HU := Lib.hid hU
  have hgw : g < w.heap.size := World.block_lt_of_cell? _ _ (hU 0 (by omega))
  have HG := Lib.hid hgw
  have L1 := Lib.hid (hU.part (sz k) (sz k) (by omega)).lst
  have L2 := Lib.hid (hU.part 0 (sz k) (by omega)).lst0
  have HP3 : Hid (∀ w1 : World, Below w.heap.size w w1 → Bl w1 g (o + sz (k + 1)) (cn k) (fun j => f (sz (k + 1) + j)) ∧ Bl w1 g (o + y) (cn k) (fun j => f (y + j))) := Lib.hid (fun w1 hb => ⟨(hU.keep hb).part (sz (k + 1)) (cn k) (by omega), (hU.keep hb).part y (cn k) (by omega)⟩)
  clear hU hi hz0 hz1 hz2 hs2 hc2 hL hy
  go_enter Try.func65, Try.ntmps65
  go_wp2_with (at_builtin; refine wpList_append_own _ rfl (.tmp 12) (.tmp 17) 27 rfl w.heap.size 4 i0 _ 1 1 Try.underlying27 HI.out.1 HI.out.2.1 HI.out.2.2.1 HI.out.2.2.2 rfl (by decide) _ 0 [] rfl (World.ownsRow_nil _ _ _ _) ⟨g, o + sz k, none⟩ (sz k) (cap - sz k) (cellsB (fun j => f (sz k + j)) (sz k)) rfl ?a0 ?a1 ?a2 ?a3 ?a4 ?a5 ?_)
  try (case a0 => rw [cellsB_len]; omega)
  case a1 =>
    intro j u hu
    (try rw [Addr.add_lit])
    exact L1.out j u hu
  case a2 => exact cellsB_one _ _
  case a3 => unfold maxLen; omega
  case a4 => omega
  try (case a5 => exact Nat.le_refl _)
  intro v1 w1 hown hgrow _
  (try simp only [Nat.zero_add, List.nil_append] at hown)
  have HV1 := Lib.hid hown
  have HB1 := Lib.hid (Below.grown (Below.refl w.heap.size w) hgrow (Nat.le_refl _) (fun k hk => by cases hk))
  have HT1 := Lib.hid hown.lt
  have hz1 := HB1.out.size
  clear hown hgrow
  go_wp2_with (at_builtin; refine wpList_append_own _ rfl (.tmp 19) (.tmp 23) 27 rfl w.heap.size 4 i0 _ 1 1 Try.underlying27 HI.out.1 HI.out.2.1 HI.out.2.2.1 HI.out.2.2.2 rfl (by decide) _ (sz k) (cellsB (fun j => f (sz k + j)) (sz k)) rfl HV1.out ⟨g, o, none⟩ (sz k) cap (cellsB f (sz k)) rfl ?b0 ?b1 ?b2 ?b3 ?b4 ?b5 ?_)
  try (case b0 => rw [cellsB_len]; omega)
  case b1 =>
    intro j u hu
    (try rw [Addr.add_lit])
    exact (L2.out.keep HB1.out) j u hu
  case b2 => exact cellsB_one _ _
  case b3 => unfold maxLen; omega
  case b4 => omega
  try (case b5 => omega)
  intro v2 w2 hown hgrow _
  have HV2 := Lib.hid hown
  have HB2 := Lib.hid (Below.grown HB1.out hgrow hz1 (fun p hp => (HT1.out p hp).1))
  have hz2 := HB2.out.size
  clear hown hgrow HV1 HB1 HT1 hz1
  go_wp2_with fail
  refine (switches_any k (by omega) _).mono ?_
  rintro e w' ⟨rfl, rfl⟩
  go_wp2_with fail
  refine (ih g (o + sz (k + 1)) (cap - sz (k + 1)) (fun j => f (sz (k + 1) + j)) _ (by omega) (by omega) (HP3.out _ HB2.out).1).mono ?_
  rintro e w3 ⟨⟨V3, rfl, hV3⟩, hb3⟩
  obtain ⟨g3, c3, rfl, hgB3, hgs3, _, _⟩ := own_fm hV3 hp
  have L3 := Lib.hid (Lst_own hV3)
  have HV23 := Lib.hid (own_below' HV2.out hb3)
  have HB3 := Lib.hid (HB2.out.trans (hb3.mono HB2.out.size))
  have HT3 := Lib.hid HV23.out.lt
  have hz3 := HB3.out.size
  clear hV3 hb3 HV2 HB2
  go_wp2_with (at_builtin; refine wpList_append_own _ rfl (.tmp 28) (.tmp 37) 27 rfl w.heap.size 4 i0 _ 1 1 Try.underlying27 HI.out.1 HI.out.2.1 HI.out.2.2.1 HI.out.2.2.2 rfl (by decide) _ (sz k + sz k) (cellsB (fun j => f (sz k + j)) (sz k) ++ cellsB f (sz k)) rfl HV23.out ⟨g3, 0, none⟩ (cn k) c3 (cellsB (fun j => f (sz (k + 1) + mi k j)) (cn k)) rfl ?c0 ?c1 ?c2 ?c3 ?c4 ?c5 ?_)
  try (case c0 => rw [cellsB_len]; omega)
  case c1 =>
    intro j u hu
    (try rw [Addr.add_lit])
    exact L3.out j u hu
  case c2 => exact cellsB_one _ _
  case c3 => unfold maxLen; omega
  case c4 => omega
  try (case c5 => omega)
  intro v4 w4 hown hgrow _
  have HV4 := Lib.hid hown
  have HB4 := Lib.hid (Below.grown HB3.out hgrow hz3 (fun p hp => (HT3.out p hp).1))
  have hz4 := HB4.out.size
  clear hown hgrow HV23 HB3 HT3 hz3 L3
  go_wp2_with fail
  refine (ih g (o + y) (cap - y) (fun j => f (y + j)) _ (by omega) (by omega) (HP3.out _ HB4.out).2).mono ?_
  rintro e w5 ⟨⟨V5, rfl, hV5⟩, hb5⟩
  obtain ⟨g5, c5, rfl, hgB5, hgs5, _, _⟩ := own_fm hV5 hp
  have L5 := Lib.hid (Lst_own hV5)
  have HV45 := Lib.hid (own_below' HV4.out hb5)
  have HB5 := Lib.hid (HB4.out.trans (hb5.mono HB4.out.size))
  have HT5 := Lib.hid HV45.out.lt
  have hz5 := HB5.out.size
  clear hV5 hb5 HV4 HB4
  go_wp2_with (at_builtin; refine wpList_append_own _ rfl (.tmp 39) (.tmp 47) 27 rfl w.heap.size 4 i0 _ 1 1 Try.underlying27 HI.out.1 HI.out.2.1 HI.out.2.2.1 HI.out.2.2.2 rfl (by decide) _ (sz k + sz k + cn k) _ rfl HV45.out ⟨g5, 0, none⟩ (cn k) c5 (cellsB (fun j => f (y + mi k j)) (cn k)) rfl ?d0 ?d1 ?d2 ?d3 ?d4 ?d5 ?_)
  try (case d0 => rw [cellsB_len]; omega)
  case d1 =>
    intro j u hu
    (try rw [Addr.add_lit])
    exact L5.out j u hu
  case d2 => exact cellsB_one _ _
  case d3 => unfold maxLen; omega
  case d4 => omega
  try (case d5 => omega)
  intro v6 w6 hown hgrow _
  have HV6 : Hid (w6.ownsRow w.heap.size 4 1 v6 (cn (k + 1)) (cellsB (fun j => f (mi (k + 1) j)) (cn (k + 1)))) := Lib.hid (by
    rw [HMP.out, ← HL.out]
    (try simp only [List.append_assoc] at hown)
    (try simp only [List.append_assoc])
    exact hown)
  have hbl := Below.grown HB5.out hgrow hz5 (fun p hp => (HT5.out p hp).1)
  clear hown hgrow HV45 HB5 HT5 L5
  go_wp2_with fail
  go_returns
  exact ⟨⟨_, rfl, HV6.out⟩, hbl⟩
theorem mirrored_any : ∀ (k : Nat), k ≤ 3 → ∀ (g o cap : Nat) (f : Nat → Bool) (w : World), cn k ≤ cap → cap ≤ 9223372036854775807 → Bl w g o (cn k) f → Calls Try.prog 65 #[.int .i64 (sz k : Nat), .slice (some ⟨g, o, none⟩) (cn k) cap] w fun e w' => OwnRet_B w.heap.size w' e (cn k) (cellsB (fun j => f (mi k j)) (cn k)) ∧ Below w.heap.size w w' := by
  intro k
  induction k with
  | zero => intro _ g o cap f w _ _ h; exact mirrored_zero g o cap f w h
  | succ k ih => intro hk g o cap f w h1 h2 h; exact mirrored_succ k (by omega) (ih (by omega)) g o cap f w h1 h2 h
end Go.Proofs.Ytfilofnkiocbeaa
