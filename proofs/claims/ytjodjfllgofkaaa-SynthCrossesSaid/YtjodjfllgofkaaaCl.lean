import Derived.Test.YtjodjfllgofkaaaMx
import Derived.Test.YtjodjfllgofkaaaDe
import Derived.Deep.RegionHeld3
import Derived.Deep.DeepCutAuto
namespace Prm
open Amp
/-- The first guide of an item, from 0 on, and how many it has. -/
def itA (x : It) : Nat := (x.at' - 1).toNat
def itN (x : It) : Nat := (itW x).toNat
/-- The last columns of the guides when the first k items are placed. -/
def lstF (f : Nat → It) : Nat → Nat → Int
  | 0, _ => 0
  | k + 1, g => if itA (f k) ≤ g ∧ g < itA (f k) + itN (f k) then mxTo (fun i => lstF f k (itA (f k) + i)) (itN (f k) - 1) + 1 else lstF f k g
/-- The column of item k. -/
def colF (f : Nat → It) (k : Nat) : Int := mxTo (fun i => lstF f k (itA (f k) + i)) (itN (f k) - 1) + 1
theorem lstF_succ (f : Nat → It) (k g : Nat) : lstF f (k + 1) g = if itA (f k) ≤ g ∧ g < itA (f k) + itN (f k) then colF f k else lstF f k g := rfl
theorem lstF_bd (f : Nat → It) (k : Nat) : ∀ g, 0 ≤ lstF f k g ∧ lstF f k g ≤ k := by
  induction k with
  | zero => intro g; simp [lstF]
  | succ k ih =>
    intro g
    rw [lstF_succ]
    have := mxTo_bd (f := fun i => lstF f k (itA (f k) + i)) (lo := 0) (hi := k) (n := itN (f k) - 1) (fun i _ => ih _)
    have := ih g
    unfold colF
    split <;> omega
theorem colF_bd (f : Nat → It) (k : Nat) : 1 ≤ colF f k ∧ colF f k ≤ (k : Int) + 1 := by
  have := mxTo_bd (f := fun i => lstF f k (itA (f k) + i)) (lo := 0) (hi := k) (n := itN (f k) - 1) (fun i _ => lstF_bd f k _)
  unfold colF
  omega
theorem fitAt {n : Nat} {f : Nat → It} {m : Nat} (h : fitTo n f m = true) {k : Nat} (hk : k < m) : itF n (f k) = true := by
  induction m with
  | zero => omega
  | succ m ih =>
    simp only [fitTo, Bool.and_eq_true] at h
    by_cases e : k = m
    · subst e; exact h.2
    · exact ih h.1 (by omega)
/-- What a valid item is. -/
theorem itF_yes {n : Nat} {x : It} (h : itF n x = true) : 1 ≤ x.kind ∧ x.kind ≤ 3 ∧ 1 ≤ itN x ∧ itN x ≤ 2 ∧ itW x = (itN x : Int) ∧ x.at' = (itA x : Int) + 1 ∧ itA x + itN x ≤ n := by
  unfold itF at h
  simp only [Bool.and_eq_true, decide_eq_true_eq] at h
  obtain ⟨hb, ha, hc⟩ := h
  unfold itN itA
  have hw : (x.kind = 1 ∧ itW x = 1) ∨ ((x.kind = 2 ∨ x.kind = 3) ∧ itW x = 2) := by
    unfold itB at hb
    unfold itW
    by_cases h1 : x.kind = 1
    · left; exact ⟨h1, if_pos h1⟩
    · rw [if_neg h1] at hb
      by_cases h2 : x.kind = 2 ∨ x.kind = 3
      · right; exact ⟨h2, by rw [if_neg h1, if_pos h2]⟩
      · rw [if_neg h2] at hb; cases hb
  rcases hw with ⟨h1, h2⟩ | ⟨h1, h2⟩ <;> rw [h2] at hc ⊢ <;> omega
theorem askOk {N : Int} {len : Nat} {f : Nat → It} (h : askS N len f = 0) : 1 ≤ N ∧ N ≤ 6 ∧ len ≤ 5000 ∧ fitTo N.toNat f len = true := by
  unfold askS at h
  by_cases h1 : 1 ≤ N ∧ N ≤ 6
  · rw [if_pos h1] at h
    by_cases h2 : len ≤ 5000 ∧ fitTo N.toNat f len = true
    · exact ⟨h1.1, h1.2, h2.1, h2.2⟩
    · rw [if_neg h2] at h; omega
  · rw [if_neg h1] at h; omega
end Prm
namespace Go.Proofs.Ytjodjfllgofkaaa
open Go.RowKit Prm Amp

/-- Block B is an array of 6 whole numbers, all 0. -/
theorem fresh6 (w : World) (t : TypeId) : Intw (w.alloc (.cells #[.int .i64 0, .int .i64 0, .int .i64 0, .int .i64 0, .int .i64 0, .int .i64 0] t)) w.heap.size 6 (fun _ => 0) := by
  intro i hi
  rcases (show i = 0 ∨ i = 1 ∨ i = 2 ∨ i = 3 ∨ i = 4 ∨ i = 5 by omega) with rfl | rfl | rfl | rfl | rfl | rfl <;> exact ⟨by go_cell, by go_cell⟩

theorem own_base {w : World} {base base' : Nat} {e : TypeId} {s : Nat} {v : Value} {n : Nat} {xs : List Value} (h : w.ownsRow base e s v n xs) (hb : base' ≤ base) : w.ownsRow base' e s v n xs := by
  obtain ⟨h1, h2⟩ := h
  refine ⟨h1, h2.imp_right ?_⟩
  rintro ⟨g, cap, cur, a, b, c⟩
  exact ⟨g, cap, cur, a, Nat.le_trans hb b, c⟩
theorem run_slice6 (B a n : Nat) (W : World) (h5 : (a : Int) ≤ 5) (h : (a : Int) + n ≤ 6) :
    (Instr.sliceAt 77 (.pointer (some ⟨B, 0, none⟩)) (some (.int .i64 a)) (some (.int .i64 ((a : Int) + n))) none).run Try.prog W = .ok (.slice (some ⟨B, a, none⟩) n (6 - a)) W := by
  have e6 : Try.prog.arrayLen 77 = 6 := by kernel_rfl
  have es : (sizeOf (Try.prog.elem 77)).run Try.prog W = .ok 1 W := by kernel_rfl
  rw [run_sliceAt_array_lh W 77 ⟨B, 0, none⟩ (by kernel_rfl) .i64 .i64 a ((a : Int) + n) (by omega) (by omega) (by rw [e6]; omega), es]
  have e1 : ((a : Int) + n).toNat = a + n := by omega
  have e2 : ¬ 6 = a := by omega
  simp only [Result.andThen, slicedAt, e6, Int.toNat_natCast, e1, if_neg e2, Addr.add_lit, Nat.zero_add, Nat.mul_one, Nat.add_sub_cancel_left]

set_option maxRecDepth 100000 in
set_option maxHeartbeats 1000000 in
theorem columns_no (N : Int) (len cap : Nat) (ao : Option Addr) (f : Nat → It) (w : World) (hlen : len ≤ 9223372036854775807) (hc : Its w ao len f) (ha : askS N len f ≠ 0) :
    Calls Try.prog 18 #[.int .i64 N, .slice ao len cap] w fun e w' => e = .returned (.tuple #[.slice none 0 0, .int .i64 (askS N len f)]) ∧ Below w.heap.size w w' := by
  have HC := Lib.hid hc
  obtain ⟨er, her⟩ : ∃ er, askS N len f = er := ⟨_, rfl⟩
  rw [her] at ha
  rw [her]
  have HER := Lib.hid her
  have hb0 : (er == 0) = false := beq_eq_false_iff_ne.2 ha
  have hb1 : (er != 0) = true := bne_iff_ne.2 ha
  clear hc ha her
  go_enter Try.func18, Try.ntmps18
  go_wp2_with fail
  refine (mcheck_any N len cap ao f _ hlen HC.out).mono ?_
  rintro e w1 ⟨rfl, hb⟩
  rw [HER.out]
  have D1 := Lib.hid hb
  clear hb
  go_wp2_with fail
  go_returns
  exact ⟨rfl, D1.out⟩

set_option maxRecDepth 100000 in
set_option maxHeartbeats 4000000 in
theorem columns_ok (N : Int) (len cap : Nat) (ao : Option Addr) (f : Nat → It) (w : World) (hc : Its w ao len f) (ha : askS N len f = 0) :
    Calls Try.prog 18 #[.int .i64 N, .slice ao len cap] w fun e w' => (∃ lv, e = .returned (.tuple #[lv, .int .i64 0]) ∧ w'.ownsRow w.heap.size 3 1 lv len (cellsI (colF f) len)) ∧ Below w.heap.size w w' := by
  have HC := Lib.hid hc
  have HA := Lib.hid ha
  obtain ⟨_, hN6, hl5, hfit⟩ := askOk ha
  have HF := Lib.hid hfit
  obtain ⟨i0, hi, hz0, hz1, hz2⟩ := info_parts infoInt
  have HI := Lib.hid (And.intro hi (And.intro hz0 (And.intro hz1 hz2)))
  have HN6 : Hid (N.toNat ≤ 6) := Lib.hid (by omega)
  have hl5' : (len : Int) ≤ 5000 := by omega
  clear hi hz0 hz1 hz2 hc ha hfit hN6
  go_enter Try.func18, Try.ntmps18
  go_wp2_with fail
  refine (mcheck_any N len cap ao f _ (by omega) HC.out).mono ?_
  rintro e w1 ⟨rfl, hb⟩
  rw [HA.out]
  have HC1 := Lib.hid (HC.out.keep hb)
  have D1 := Lib.hid hb
  have hs1 : w.heap.size ≤ w1.heap.size := hb.size
  clear hb
  go_wp2_with fail
  go_loopw [7, 10, 11, 12, 13, 22] (fun lv _ _ _ _ i wr => ∃ k : Nat, i = .int .i64 k ∧ k ≤ len ∧ Hid (wr.ownsRow (w1.heap.size + 1) 3 1 lv k (cellsI (colF f) k)) ∧ Hid (Intw wr w1.heap.size 6 (lstF f k)) ∧ Below w1.heap.size w1 wr ∧ w1.heap.size < wr.heap.size) (fun _ _ _ _ _ i _ => len - (intOf i).toNat)
  case atStart => exact ⟨0, rfl, Nat.zero_le _, Lib.hid (World.ownsRow_nil _ _ _ _), Lib.hid ((fresh6 w1 _).congr fun _ _ => rfl), by go_grown, by simp⟩
  case round =>
    obtain ⟨k, rfl, hk, HO, HL, hbel, hsz⟩ := hrel
    by_cases hlt : k < len
    · have hlt' : (k : Int) < (len : Int) := by omega
      obtain ⟨b, o, rfl, hcell⟩ := (Its.keep HC1.out hbel) (by omega)
      obtain ⟨⟨kd, at', m, nm⟩, hx⟩ : ∃ x : It, f k = x := ⟨_, rfl⟩
      have hfk := itF_yes (fitAt HF.out hlt)
      have hz := hcell k hlt
      rw [hx] at hz hfk
      obtain ⟨c0, c1, c2, c3, c4⟩ := hz
      simp only at c0 c1 c2 c3 c4 hfk
      obtain ⟨hk1, hk3, hn1, hn2, hw, hat, hfit⟩ := hfk
      obtain ⟨a, hA⟩ : ∃ a, itA ⟨kd, at', m, nm⟩ = a := ⟨_, rfl⟩
      obtain ⟨n, hNN⟩ : ∃ n, itN ⟨kd, at', m, nm⟩ = n := ⟨_, rfl⟩
      rw [hA] at hat hfit
      rw [hNN] at hn1 hn2 hw hfit
      have ha6 : a + n ≤ 6 := by have := HN6.out; omega
      have ha6' : (a : Int) + n ≤ 6 := by omega
      have ha5' : (a : Int) ≤ 5 := by omega
      have hn1' : 1 ≤ (n : Int) := by omega
      have hn2' : (n : Int) ≤ 2 := by omega
      obtain rfl : at' = (a : Int) + 1 := hat
      have HW := Lib.hid hw
      have HAA := Lib.hid hA
      have HNA := Lib.hid hNN
      have HX := Lib.hid hx
      have HNM := Lib.hid c4
      clear hcell hx c4 hw hA hNN hfit
      have hw1 : IntKind.i64.wrap (a : Int) = a := IntWalk.i64_in _ (by omega)
      have hw2 : IntKind.i64.wrap ((a : Int) + (n : Int)) = (a : Int) + n := IntWalk.i64_in _ (by omega)
      have hw3 := fun W : World => run_slice6 w1.heap.size a n W ha5' ha6'
      have HW3 := Lib.hid hw3
      have HW1 := Lib.hid hw1
      have HW2 := Lib.hid hw2
      have G0 : Hid (∀ w', Below (wr.heap.size + 1) (wr.alloc (.cells #[.int .i64 kd, .int .i64 ((a : Int) + 1), .int .i64 m, .string nm] 68)) w' → w'.cell? ⟨wr.heap.size, 0, none⟩ = some (.int .i64 kd) ∧ w'.cell? ⟨wr.heap.size, 1, none⟩ = some (.int .i64 ((a : Int) + 1)) ∧ w'.cell? ⟨wr.heap.size, 2, none⟩ = some (.int .i64 m) ∧ w'.cell? ⟨wr.heap.size, 3, none⟩ = some (.string nm)) := Lib.hid (fun w' hb => by
        have e := fun j => hb.cell (p := ⟨wr.heap.size, j, none⟩) (Nat.lt_succ_self _)
        rw [e, e, e, e]
        exact ⟨by go_cell, by go_cell, by go_cell, by go_cell⟩)
      clear hw1 hw2 hw3
      go_upto_region 9 with fail
      go_cut [11] (fun sv wx => sv = .slice (some ⟨w1.heap.size, a, none⟩) n (6 - a) ∧ Below wr.heap.size wr wx)
      case first =>
        have hw1 := HW1.out
        have hw2 := HW2.out
        have hw3 := HW3.out
        go_region_held3 (fun w' => w'.cell? ⟨wr.heap.size, 0, none⟩ = some (.int .i64 kd) ∧ w'.cell? ⟨wr.heap.size, 1, none⟩ = some (.int .i64 ((a : Int) + 1)) ∧ w'.cell? ⟨wr.heap.size, 2, none⟩ = some (.int .i64 m) ∧ w'.cell? ⟨wr.heap.size, 3, none⟩ = some (.string nm))
          ((first | ((try clear hw1 hw2); refine G0.out _ ?_; go_grown; done) | go_keep))
          ((go_at_call 57; clear hw1 hw2; refine (guides_any kd ((a : Int) + 1) m nm _ HNM.out).mono ?_; rintro e wA ⟨rfl, hb⟩; rw [HW.out]; have HD : Below (wr.heap.size + 1) (wr.alloc (.cells #[.int .i64 kd, .int .i64 ((a : Int) + 1), .int .i64 m, .string nm] 68)) wA := (Below.trans (by first | exact Below.refl _ _ | go_grown) (hb.mono (by simp))); have HD0 : Below wr.heap.size wr wA := ((Below.refl _ wr).alloc (Nat.le_refl _) _).trans (HD.mono (by omega)); have HG := G0.out _ HD; obtain ⟨q0, q1, q2, q3⟩ := HG; have hw1 := HW1.out; have hw2 := HW2.out))
        all_goals
          go_wp2_with fail
          go_meet
          exact ⟨rfl, HD0⟩
      case rest =>
        obtain ⟨rfl, hD8⟩ := hcut
        have HL8 := Lib.hid (HL.out.keep hD8)
        have HO8 := Lib.hid (own_below' HO.out hD8)
        have HB8 := Lib.hid (hbel.trans (hD8.mono hbel.size))
        have hs8 : w1.heap.size < wc.heap.size := Nat.lt_of_lt_of_le hsz hD8.size
        clear hD8 c0 c1 c2 c3 HO HL hbel hsz
        obtain ⟨y, hy⟩ : ∃ y, mxTo (fun i => lstF f k (a + i)) (n - 1) = y := ⟨_, rfl⟩
        have hyb := mxTo_bd (f := fun i => lstF f k (a + i)) (lo := 0) (hi := k) (n := n - 1) (fun i _ => lstF_bd f k _)
        rw [hy] at hyb
        obtain ⟨hy0, hyk⟩ := hyb
        have HY : Hid (colF f k = y + 1) := Lib.hid (by unfold colF; rw [HX.out, HAA.out, HNA.out, hy])
        go_wp2_with fail
        refine (max_any n (6 - a) w1.heap.size a (fun i => lstF f k (a + i)) _ hn1 (by omega) (fun i hi => (HL8.out (a + i) (by omega)).1)).mono ?_
        rintro e w9 ⟨rfl, hb9⟩
        rw [hy]
        have HL9 := Lib.hid (HL8.out.keep hb9)
        have HO9 := Lib.hid (own_below' HO8.out hb9)
        have HB9 := HB8.out.trans (hb9.mono (Nat.le_of_lt hs8))
        have hs9 : w1.heap.size < w9.heap.size := Nat.lt_of_lt_of_le hs8 hb9.size
        clear hb9 HL8 HO8 HB8 hs8 hy
        go_wp2_with fail
        go_loopw [13, 41] (fun _ j wz => ∃ i : Nat, j = .int .i64 i ∧ i ≤ n ∧ Hid (Intw wz w1.heap.size 6 (fun g => if a ≤ g ∧ g < a + i then y + 1 else lstF f k g)) ∧ Hid (wz.ownsRow (w1.heap.size + 1) 3 1 u7 k (cellsI (colF f) k)) ∧ Below w1.heap.size w1 wz ∧ w1.heap.size < wz.heap.size) (fun _ j _ => n - (intOf j).toNat)
        case atStart => exact ⟨0, rfl, Nat.zero_le _, Lib.hid (HL9.out.congr fun g _ => (if_neg (by omega)).symm), HO9, HB9, hs9⟩
        case round =>
          obtain ⟨i, rfl, hi, HLi, HOi, hbi, hsi⟩ := hrel
          clear HL9 HO9 HB9 hs9
          by_cases hin : i < n
          · have hin' : (i : Int) < (n : Int) := by omega
            have hai : a + i < 6 := by omega
            obtain ⟨d0, d1⟩ := HLi.out (a + i) hai
            have HS : Hid (Intw (wr.setCell ⟨w1.heap.size, a + i, none⟩ (.int .i64 (y + 1))) w1.heap.size 6 (fun g => if a ≤ g ∧ g < a + (i + 1) then y + 1 else lstF f k g)) := Lib.hid ((HLi.out.store hai (y + 1)).congr fun g _ => by
              show (if g = a + i then y + 1 else if a ≤ g ∧ g < a + i then y + 1 else lstF f k g) = (if a ≤ g ∧ g < a + (i + 1) then y + 1 else lstF f k g)
              by_cases e : g = a + i
              · rw [if_pos e, if_pos (by omega)]
              · by_cases e2 : a ≤ g ∧ g < a + i
                · rw [if_neg e, if_pos e2, if_pos (by omega)]
                · rw [if_neg e, if_neg e2, if_neg (by omega)])
            have HOS := Lib.hid (own_set HOi.out (b := w1.heap.size) (k := a + i) (u := .int .i64 (y + 1)) (by omega))
            have hbs : Below w1.heap.size w1 (wr.setCell ⟨w1.heap.size, a + i, none⟩ (.int .i64 (y + 1))) := hbi.setCell (p := ⟨w1.heap.size, a + i, none⟩) (Nat.le_refl _) _
            go_wp2_with fail
            go_roundw
            case rel => exact ⟨i + 1, by go_num, by omega, HS, HOS, hbs, by simpa using hsi⟩
            case measure => simp [intOf]; omega
          · obtain rfl : i = n := by omega
            have HLN : Hid (Intw wr w1.heap.size 6 (lstF f (k + 1))) := Lib.hid (HLi.out.congr fun g _ => by
              rw [lstF_succ, HX.out, HAA.out, HNA.out, HY.out])
            go_wp2_with (at_builtin; refine wpList_append_own _ rfl (.tmp 49) (.tmp 51) 36 rfl (w1.heap.size + 1) 3 i0 _ 1 8 Try.underlying36 HI.out.1 HI.out.2.1 HI.out.2.2.1 HI.out.2.2.2 rfl (by decide) _ k (cellsI (colF f) k) rfl (HOi.out.alloc _) ⟨wr.heap.size, 0, none⟩ 1 1 [.int .i64 (y + 1)] rfl rfl ?c1 ?c2 ?c3 ?c4 ?c5 ?_)
            case c1 => exact fun j u hu => World.news_of_block (cs := #[.int .i64 (y + 1)]) (heap_new wr _) j u hu
            case c2 =>
              intro u hu
              simp only [List.mem_cons, List.not_mem_nil, or_false] at hu
              subst hu; rfl
            case c3 => unfold maxLen; omega
            case c4 => omega
            case c5 => simp; omega
            intro v' w3 hown' hgrow _
            rw [← HY.out, ← cellsI_succ] at hown'
            have hltk := HOi.out.lt
            have hne : some w1.heap.size ≠ u7.ownBlock := fun e => by have := (hltk _ e.symm).1; omega
            have HB3 : Below w1.heap.size w1 w3 := Below.grown (hbi.alloc (by omega) _) hgrow (by simp; omega) (fun k hk => by have := (hltk k hk).1; omega)
            have e2 : w3.heap[w1.heap.size]? = wr.heap[w1.heap.size]? := (hgrow.block _ (by simp; omega) hne).trans (Below.heap_alloc wr _ _ hsi)
            have HL3 := Lib.hid (HLN.out.block e2)
            have hs3 : w1.heap.size < w3.heap.size := World.block_lt_of_cell? w3 _ (HL3.out 0 (by omega)).1
            have HO3 := Lib.hid hown'
            clear hown' hgrow hltk hne e2
            go_wp2_with fail
            go_roundw
            case rel => exact ⟨k + 1, by go_num, by omega, HO3, HL3, HB3, hs3⟩
            case measure => simp [intOf]; omega
    · obtain rfl : k = len := by omega
      go_wp2_with fail
      go_returns
      exact ⟨⟨_, rfl, own_base HO.out (by omega)⟩, D1.out.trans (hbel.mono hs1)⟩
end Go.Proofs.Ytjodjfllgofkaaa
