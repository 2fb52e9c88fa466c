import Derived.Test.YtpjfpkhcadombaaCy
import Derived.Test.YtpjfpkhcadombaaSt
namespace Go.Proofs.Ytpjfpkhcadombaa
open Go.RowKit Prm
def sF (f : Nat → Int) (k : Nat) : Nat := (f k).toNat
/-- Block B is 64 bools that say of which numbers P holds. -/
def UsedP (w : World) (B : Nat) (P : Nat → Prop) : Prop := ∃ g, Used w B g ∧ ∀ j, j < 64 → (g j = true ↔ P j)
theorem UsedP.congr {w : World} {B : Nat} {P Q : Nat → Prop} (h : UsedP w B P) (e : ∀ j, j < 64 → (P j ↔ Q j)) : UsedP w B Q := by
  obtain ⟨g, h1, h2⟩ := h
  exact ⟨g, h1, fun j hj => (h2 j hj).trans (e j hj)⟩
theorem UsedP.store {w : World} {B : Nat} {P : Nat → Prop} (h : UsedP w B P) {y : Nat} (hy : y < 64) : UsedP (w.setCell ⟨B, y, none⟩ (.bool true)) B (fun j => P j ∨ j = y) := by
  obtain ⟨g, h1, h2⟩ := h
  refine ⟨_, h1.store hy, fun j hj => ?_⟩
  by_cases e : j = y
  · simp [e]
  · simp only [if_neg e, h2 j hj]
    simp [e]
theorem Used.block {w w1 : World} {B : Nat} {g : Nat → Bool} (h : Used w B g) (e : w1.heap[B]? = w.heap[B]?) : Used w1 B g := fun i hi =>
  ⟨(World.cell?_of_block (a := ⟨B, i, none⟩) e).trans (h i hi).1, (World.frozen?_of_block (a := ⟨B, i, none⟩) e).trans (h i hi).2⟩
theorem UsedP.block {w w1 : World} {B : Nat} {P : Nat → Prop} (h : UsedP w B P) (e : w1.heap[B]? = w.heap[B]?) : UsedP w1 B P := by
  obtain ⟨g, h1, h2⟩ := h
  exact ⟨g, h1.block e, h2⟩
theorem lf_own {w : World} {base : Nat} {g cap : Nat} {A : List Int} {e : TypeId} (h : w.ownsRow base e 1 (.slice (some ⟨g, 0, none⟩) A.length cap) A.length (A.map (Value.int .i64))) : Intw w g A.length (lf A) :=
  Intw.of_own h fun i hi => by simp [lf, hi]

set_option maxRecDepth 100000 in
set_option maxHeartbeats 4000000 in
theorem cycles_any (n cap : Nat) (ao : Option Addr) (f : Nat → Int) (w : World) (hn : n ≤ 9223372036854775807) (hc : Ints w ao n f) :
    Calls Try.prog 11 #[.slice ao n cap] w fun e w' => IntsOr w.heap.size w' e (cyR n (sF f) n).length (lf (cyR n (sF f) n)) (prmE n f) ∧ Below w.heap.size w w' := by
  have HC := Lib.hid hc
  clear hc
  cases hp : permB n f with
  | false =>
    have HE : Hid (prmE n f = 40) := Lib.hid (by unfold prmE; rw [hp]; rfl)
    have HP := Lib.hid hp
    clear hp
    go_enter Try.func11, Try.ntmps11
    go_wp2_with fail
    refine (validPerm_any n cap ao f _ hn HC.out).mono ?_
    rintro e w1 ⟨rfl, hb⟩
    rw [HP.out]
    have D1 := Lib.hid hb
    clear hb
    go_wp2_with fail
    go_returns
    exact ⟨.inr ⟨by rw [HE.out]; decide, by rw [HE.out] <;> rfl⟩, D1.out⟩
  | true =>
  have HE : Hid (prmE n f = 0) := Lib.hid (by unfold prmE; rw [hp]; rfl)
  have HP := Lib.hid hp
  obtain ⟨h1, h64, hrg⟩ := permB_yes hp
  have hbij : Bij n (sF f) := perm_bij hp
  have HBJ := Lib.hid hbij
  have HRG := Lib.hid hrg
  have h64' : (n : Int) ≤ 64 := by omega
  obtain ⟨s, hs⟩ : ∃ s, sF f = s := ⟨_, rfl⟩
  have HSF : Hid (∀ k, k < n → f k = (s k : Int)) := Lib.hid fun k hk => by rw [← hs]; unfold sF; have := (hrg k hk).1; omega
  rw [hs] at HBJ
  rw [hs]
  obtain ⟨i0, hi, hz0, hz1, hz2⟩ := info_parts infoInt
  have HI := Lib.hid (And.intro hi (And.intro hz0 (And.intro hz1 hz2)))
  obtain ⟨b, o, rfl, hcw⟩ := HC.out h1
  have hbl : b < w.heap.size := World.block_lt_of_cell? w _ (hcw 0 (by omega))
  have HCW := Lib.hid hcw
  clear hi hz0 hz1 hz2 hp hrg hbij hs hcw
  go_enter Try.func11, Try.ntmps11
  go_wp2_with fail
  refine (validPerm_any n cap (some ⟨b, o, none⟩) f _ hn HC.out).mono ?_
  rintro e w1 ⟨rfl, hb⟩
  rw [HP.out]
  have D1 := Lib.hid hb
  have hs1 := hb.size
  have hbne : ¬ w1.heap.size = b := by omega
  clear hb
  go_wp2_with fail
  go_loopw [4, 6, 7, 8, 14] (fun lv _ _ _ i wr => ∃ k : Nat, i = .int .i64 k ∧ k ≤ n ∧ Hid (wr.ownsRow (w1.heap.size + 1) 3 1 lv (cyP n s k).length ((cyP n s k).map (Value.int .i64))) ∧ Hid (UsedP wr w1.heap.size (Seen s k)) ∧ Below w1.heap.size w1 wr ∧ w1.heap.size < wr.heap.size) (fun _ _ _ _ i _ => n - (intOf i).toNat)
  case atStart =>
    refine ⟨0, rfl, Nat.zero_le _, Lib.hid (World.ownsRow_nil _ _ _ _), Lib.hid ⟨_, Used.fresh w1 _, fun j _ => ?_⟩, by go_grown, by simp⟩
    simp only [Bool.false_eq_true, false_iff]
    rintro ⟨a, ha, _⟩
    omega
  case round =>
    obtain ⟨k, rfl, hk, HO, HU, hbel, hsz⟩ := hrel
    by_cases hlt : k < n
    · have hlt' : (k : Int) < (n : Int) := by omega
      obtain ⟨c, hcl⟩ : ∃ c, clen n s k = c := ⟨_, rfl⟩
      have hcs := HBJ.out.clen hlt
      rw [hcl] at hcs
      have HCS := Lib.hid hcs
      have HCL := Lib.hid hcl
      have hc64 : (c : Int) ≤ 64 := by omega
      have HLS := Lib.hid (HBJ.out.lst_seen hlt)
      obtain ⟨wo, rfl⟩ : ∃ wo : World, wo = wr := ⟨_, rfl⟩
      clear hcs hcl
      go_wp2_with fail
      go_loopw [7, 8] (fun lv kv wr => ∃ j : Nat, lv = .int .i64 j ∧ kv = .int .i64 (it s j k) ∧ Hid (Seen s k k → j = 0) ∧ j ≤ c ∧ Hid (wr.ownsRow (w1.heap.size + 1) 3 1 u4 (cyP n s k).length ((cyP n s k).map (Value.int .i64))) ∧ Hid (UsedP wr w1.heap.size (fun x => Seen s k x ∨ ∃ i, i < j ∧ it s i k = x)) ∧ Below w1.heap.size w1 wr ∧ w1.heap.size < wr.heap.size) (fun lv _ _ => c - (intOf lv).toNat)
      case atStart => exact ⟨0, rfl, rfl, Lib.hid fun _ => rfl, Nat.zero_le _, HO, Lib.hid (HU.out.congr fun x _ => ⟨.inl, fun h => h.elim id (by rintro ⟨i, hi, _⟩; omega)⟩), hbel, hsz⟩
      case round =>
        obtain ⟨j, rfl, rfl, HJ, hjc, HO2, HU2, hbel2, hsz2⟩ := hrel
        clear HO HU hbel hsz
        have hbw : Below w.heap.size w wr := D1.out.trans (hbel2.mono hs1)
        obtain ⟨x, hx⟩ : ∃ x, it s j k = x := ⟨_, rfl⟩
        rw [hx]
        have hxn : x < n := by rw [← hx]; exact HBJ.out.it_lt hlt j
        have hx64 : x < 64 := by omega
        have hx64' : (x : Int) < 64 := by omega
        have hxn' : (x : Int) < n := by omega
        have c0 := (hbw.cell (p := ⟨b, o + x, none⟩) hbl).trans (HCW.out x hxn)
        rw [HSF.out x hxn] at c0
        have HX := Lib.hid hx
        obtain ⟨gg, hU, hP⟩ := HU2.out
        obtain ⟨u0, u1⟩ := hU x hx64
        have HPX := Lib.hid (hP x hx64)
        obtain ⟨u, hu⟩ : ∃ u, gg x = u := ⟨_, rfl⟩
        rw [hu] at u0 
        have HUX := Lib.hid hu
        clear hx hU hP hu
        cases u with
        | false =>
          have hnp : ¬ (Seen s k x ∨ ∃ i, i < j ∧ it s i k = x) := fun h => by have := HPX.out.2 h; rw [HUX.out] at this; cases this
          have hjlt : j < c := by
            by_cases e : j < c
            · exact e
            · exfalso
              obtain rfl : j = c := by omega
              obtain ⟨a1, a2, a3, _⟩ := HCS.out
              exact hnp (.inr ⟨0, by omega, by have := HX.out; rw [a3] at this; exact this⟩)
          have hns : ¬ Seen s k k := fun h => by
            obtain rfl := HJ.out h
            exact hnp (.inl (by have := HX.out; simp only [it] at this; rw [← this]; exact h))
          have HJ2 : Hid (Seen s k k → j + 1 = 0) := Lib.hid fun h => absurd h hns
          have HN : Hid (it s (j + 1) k = s x) := Lib.hid (by show s (it s j k) = s x; rw [HX.out])
          have HOS := Lib.hid (own_set HO2.out (b := w1.heap.size) (k := x) (u := .bool true) (by omega))
          have HUS : Hid (UsedP (wr.setCell ⟨w1.heap.size, x, none⟩ (.bool true)) w1.heap.size (fun y => Seen s k y ∨ ∃ i, i < j + 1 ∧ it s i k = y)) := Lib.hid ((HU2.out.store hx64).congr fun y _ => by
            constructor
            · rintro ((h | ⟨i, hi, e⟩) | rfl)
              · exact .inl h
              · exact .inr ⟨i, by omega, e⟩
              · exact .inr ⟨j, by omega, HX.out⟩
            · rintro (h | ⟨i, hi, e⟩)
              · exact .inl (.inl h)
              · by_cases ei : i = j
                · subst ei; exact .inr (by rw [← e, HX.out])
                · exact .inl (.inr ⟨i, by omega, e⟩))
          have hjc64 : (j : Int) + 1 ≤ 64 := by omega
          have HD2 := Lib.hid hbel2
          clear hnp hns hbw hbel2
          go_wp2_with fail
          go_roundw
          case rel => exact ⟨j + 1, by go_num, by rw [HN.out], HJ2, by omega, HOS, HUS, HD2.out.setCell (p := ⟨w1.heap.size, x, none⟩) (Nat.le_refl _) _, by simpa using hsz2⟩
          case measure => simp [intOf]; omega
        | true =>
          have hpp := HPX.out.1 HUX.out
          by_cases hsk : Seen s k k
          · obtain rfl : j = 0 := HJ.out hsk
            have HL : Hid (cyP n s (k + 1) = cyP n s k) := Lib.hid (by
              simp only [cyP]
              rw [if_neg (fun h => HLS.out.1 h hsk)])
            have HUN : Hid (UsedP wr w1.heap.size (Seen s (k + 1))) := Lib.hid (HU2.out.congr fun y _ => by
              rw [HBJ.out.seen_same hlt hsk]
              exact ⟨fun h => h.elim id (by rintro ⟨i, hi, _⟩; omega), .inl⟩)
            clear hpp hsk
            go_wp2_with fail
            go_roundw
            case rel => exact ⟨k + 1, by go_num, by omega, by rw [HL.out]; exact HO2, HUN, hbel2, hsz2⟩
            case measure => simp [intOf]; omega
          · obtain ⟨a1, a2, a3, a4⟩ := HCS.out
            have hjce : j = c := by
              rcases hpp with h | ⟨i, hi, e⟩
              · exact absurd (HBJ.out.seen_back hlt (j := j) (by rw [HX.out]; exact h)) hsk
              · by_cases e2 : j = c
                · exact e2
                · exfalso
                  refine a4 (j - i) (by omega) (by omega) ?_
                  have e3 : it s i (it s (j - i) k) = it s i k := by rw [← it_add, show i + (j - i) = j by omega, HX.out, e]
                  exact HBJ.out.it_inj (HBJ.out.it_lt hlt _) hlt e3
            subst hjce
            have HL : Hid (cyP n s (k + 1) = cyP n s k ++ [(j : Int)]) := Lib.hid (by
              simp only [cyP]
              rw [if_pos (HLS.out.2 hsk), HCL.out])
            have HUN : Hid (UsedP wr w1.heap.size (Seen s (k + 1))) := Lib.hid (HU2.out.congr fun y _ => by
              rw [HBJ.out.seen_succ hlt, HCL.out])
            have hj0 : 0 < (j : Int) := by omega
            have hlen : (cyP n s k).length ≤ 64 := by have := cyP_len n s k; omega
            obtain ⟨A, hA⟩ : ∃ A, cyP n s k = A := ⟨_, rfl⟩
            rw [hA] at HO2 HL hlen
            clear hpp hsk a1 a2 a3 a4 hA
            go_wp2_with (at_builtin; refine wpList_append_own _ rfl (.tmp 32) (.tmp 34) 22 rfl (w1.heap.size + 1) 3 i0 _ 1 8 Try.underlying22 HI.out.1 HI.out.2.1 HI.out.2.2.1 HI.out.2.2.2 rfl (by decide) _ A.length (A.map (Value.int .i64)) rfl (HO2.out.alloc _) ⟨wr.heap.size, 0, none⟩ 1 1 [.int .i64 j] rfl rfl ?c1 ?c2 ?c3 ?c4 ?c5 ?_)
            case c2 => rfl
            case c3 => unfold maxLen; omega
            case c4 => omega
            case c5 => omega
            intro v' w3 hown' hgrow _
            have hltk := HO2.out.lt
            have hne : some w1.heap.size ≠ u4.ownBlock := fun e => by have := (hltk _ e.symm).1; omega
            have HB3 : Below w1.heap.size w1 w3 := Below.grown (hbel2.alloc (by omega) _) hgrow (by simp; omega) (fun k hk => by have := (hltk k hk).1; omega)
            have e2 : w3.heap[w1.heap.size]? = wr.heap[w1.heap.size]? := (hgrow.block _ (by simp; omega) hne).trans (Below.heap_alloc wr _ _ hsz2)
            have HU3 := Lib.hid (HUN.out.block e2)
            have hs3 : w1.heap.size < w3.heap.size := by have := hgrow.size; simp at this; omega
            have HO3 : Hid (w3.ownsRow (w1.heap.size + 1) 3 1 v' (cyP n s (k + 1)).length ((cyP n s (k + 1)).map (Value.int .i64))) := Lib.hid (by rw [HL.out]; simpa using hown')
            clear hown' hgrow hltk hne e2
            go_wp2_with fail
            go_roundw
            case rel => exact ⟨k + 1, by go_num, by omega, HO3, HU3, HB3, hs3⟩
            case measure => simp [intOf]; omega
    · obtain rfl : k = n := by omega
      have hpos := HBJ.out.cyP_pos h1
      have hlen : (cyP k s k).length ≤ 64 := by have := cyP_len k s k; omega
      have HSO := Lib.hid HBJ.out.sorted
      have HLN : Hid ((cyR k s k).length = (cyP k s k).length) := Lib.hid HBJ.out.perm.length_eq.symm
      obtain ⟨g, gcap, rfl, hgB, hgs, _, _⟩ := own_form HO.out hpos
      have hgi := lf_own HO.out
      go_wp2_with fail
      refine (sort_any g gcap (cyP k s k) _ hgi hpos hlen).mono ?_
      rintro e w9 ⟨rfl, hi9, hg9⟩
      rw [HSO.out] at hi9
      have HI9 := Lib.hid hi9
      have D9 : Below w.heap.size w w9 := (D1.out.trans (hbel.mono hs1)).grown hg9 (by omega) (fun q hq => by cases hq; omega)
      have hs9 := hg9.size
      clear hi9 hg9
      go_wp2_with fail
      go_returns
      exact ⟨.inl ⟨HE.out, g, gcap, by rw [HLN.out] <;> rfl, by rw [HLN.out]; exact HI9.out, by omega, by omega⟩, D9⟩
end Go.Proofs.Ytpjfpkhcadombaa
