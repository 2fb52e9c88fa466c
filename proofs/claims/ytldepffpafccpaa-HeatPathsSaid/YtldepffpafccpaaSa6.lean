import Derived.Test.YtldepffpafccpaaPa6
import Derived.Test.YtldepffpafccpaaHu
import Derived.Test.YtldepffpafccpaaHw
import Derived.Maps.AppendAt
import Derived.Laws.AppendOwnNone
namespace Heat
open Go Go.RowKit
/-- The pairs of the indices that are chosen and their numbers, as cells, and how many they are. -/
def selC (c : Nat → Bool) (t : Nat → Int) : Nat → List Value
  | 0 => []
  | k + 1 => if c k = true then selC c t k ++ [.int .i64 k, .int .i64 (t k)] else selC c t k
def selN (c : Nat → Bool) : Nat → Nat
  | 0 => 0
  | k + 1 => if c k = true then selN c k + 1 else selN c k
theorem selN_le (c : Nat → Bool) : ∀ k, selN c k ≤ k
  | 0 => Nat.le_refl _
  | k + 1 => by have := selN_le c k; unfold selN; split <;> omega
theorem selC_len (c : Nat → Bool) (t : Nat → Int) : ∀ k, (selC c t k).length = selN c k * 2
  | 0 => rfl
  | k + 1 => by
    have := selC_len c t k
    unfold selC selN
    split
    · rw [List.length_append, this]; simp only [List.length_cons, List.length_nil]; omega
    · exact this
theorem selC_int (c : Nat → Bool) (t : Nat → Int) : ∀ k, ∀ v ∈ selC c t k, ∃ z, v = .int .i64 z
  | 0, v, h => by simp [selC] at h
  | k + 1, v, h => by
    unfold selC at h
    split at h
    · rw [List.mem_append] at h
      rcases h with h | h
      · exact selC_int c t k v h
      · simp only [List.mem_cons, List.not_mem_nil, or_false] at h
        rcases h with rfl | rfl <;> exact ⟨_, rfl⟩
    · exact selC_int c t k v h
theorem selC_one (c : Nat → Bool) (t : Nat → Int) (k : Nat) : ∀ v ∈ selC c t k, v.oneCell' = true := by
  intro v h
  obtain ⟨z, rfl⟩ := selC_int c t k v h
  rfl
def lessB (f t : Nat → Int) (k : Nat) : Bool := decide (t k < f k)
def moreB (f t : Nat → Int) (k : Nat) : Bool := decide (f k < t k)
def stE (n : Nat) (f : Nat → Int) (m : Nat) (t : Nat → Int) (B : Int) : Int :=
  if ((decide (1 ≤ n ∧ n ≤ 5) && inTo f 0 1000 n) && inB m t n 0 1000 && (decide (0 ≤ B) && decide (B ≤ 5000))) = true then (if sumI f n ≤ B ∧ sumI t n ≤ B then 0 else 62) else 2
end Heat
namespace Go.Proofs.Ytldepffpafccpaa
open Go.RowKit Heat
theorem infoPair : (Try.prog.info? 33).map (fun i => (i.zero, i.size, i.bytes)) = some (some (.agg #[.int .i64 0, .int .i64 0]), 2, 16) := by kernel_rfl
/-- Two slices lie in no common block. -/
def Dis (a b : Value) : Prop := ∀ g, a.ownBlock = some g → b.ownBlock ≠ some g
theorem Dis.symm {a b : Value} (h : Dis a b) : Dis b a := fun g h1 h2 => h g h2 h1
theorem Dis.kept {a b : Value} (h : Dis a b) : b.ownBlock = none ∨ b.ownBlock ≠ a.ownBlock := by
  cases hb : b.ownBlock with
  | none => exact .inl rfl
  | some g => exact .inr fun e => h g e.symm hb
theorem Dis.next {a b a' : Value} {B : Nat} (h : Dis a b) (hat : a'.ownBlock = a.ownBlock ∨ a'.ownBlock = some B) (hb : ∀ k, b.ownBlock = some k → k < B) : Dis a' b := by
  intro g h1 h2
  rcases hat with e | e
  · exact h g (e ▸ h1) h2
  · rw [h1] at e
    have := hb g h2
    have e2 := Option.some.inj e
    omega
/-- What comes back of Steps. -/
def StepsR (B : Nat) (w : World) (e : Ending) (n : Nat) (f : Nat → Int) (m : Nat) (t : Nat → Int) (b : Int) : Prop :=
  ∃ V, e = .returned (.tuple #[V, .int .i64 (stE n f m t b)]) ∧ w.ownsRow B 33 2 V (if stE n f m t b = 0 then selN (lessB f t) n + selN (moreB f t) n else 0) (if stE n f m t b = 0 then selC (lessB f t) t n ++ selC (moreB f t) t n else [])
theorem stepsR_no {B : Nat} {w : World} {n : Nat} {f : Nat → Int} {m : Nat} {t : Nat → Int} {b x : Int} (h : stE n f m t b = x) (h0 : x ≠ 0) : StepsR B w (.returned (.tuple #[.slice none 0 0, .int .i64 x])) n f m t b := by
  unfold StepsR
  rw [h, if_neg h0, if_neg h0]
  exact ⟨_, rfl, World.ownsRow_nil _ _ _ _⟩
theorem stepsR_ok {B : Nat} {w : World} {n : Nat} {f : Nat → Int} {m : Nat} {t : Nat → Int} {b : Int} {V : Value} (h : stE n f m t b = 0) (ho : w.ownsRow B 33 2 V (selN (lessB f t) n + selN (moreB f t) n) (selC (lessB f t) t n ++ selC (moreB f t) t n)) : StepsR B w (.returned (.tuple #[V, .int .i64 0])) n f m t b := by
  unfold StepsR
  rw [h, if_pos rfl, if_pos rfl]
  exact ⟨_, rfl, ho⟩
set_option maxRecDepth 100000 in
set_option maxHeartbeats 8000000 in
theorem hSteps_any (n cap : Nat) (ao : Option Addr) (f : Nat → Int) (m dap : Nat) (bo : Option Addr) (t : Nat → Int) (B : Int) (w : World) (hn : n ≤ 9223372036854775807) (hc : Ints w ao n f) (hm : m ≤ 9223372036854775807) (hd : Ints w bo m t) :
    Calls Try.prog 18 #[.slice ao n cap, .slice bo m dap, .int .i64 B] w fun e w' => StepsR w.heap.size w' e n f m t B ∧ Below w.heap.size w w' := by
  have HC := Lib.hid hc
  have HD := Lib.hid hd
  clear hc hd
  obtain ⟨b1, hb1⟩ : ∃ b1, (decide (1 ≤ n ∧ n ≤ 5) && inTo f 0 1000 n) = b1 := ⟨_, rfl⟩
  obtain ⟨b2, hb2⟩ : ∃ b2, inB m t n 0 1000 = b2 := ⟨_, rfl⟩
  have H1 := Lib.hid hb1
  have H2 := Lib.hid hb2
  clear hb1 hb2
  go_enter Try.func18, Try.ntmps18
  go_wp2_with fail
  refine (areSome_any n cap ao f _ hn HC.out).mono ?_
  rw [H1.out]
  rintro e w1 ⟨rfl, hb⟩
  have HB1 := Lib.hid hb
  clear hb
  cases b1 with
  | false =>
    have HE : Hid (stE n f m t B = 2) := Lib.hid (by unfold stE; rw [H1.out]; rfl)
    have hbl := HB1.out
    go_wp2_with fail
    refine bodyPost_ret (v := .tuple #[.slice none 0 0, .int .i64 2]) (by simp [results, Try.results18, go_sem]) rfl ⟨stepsR_no HE.out (by decide), by go_grown⟩
  | true =>
  go_wp2_with fail
  refine (arePowers_any m dap bo t n _ hm (HD.out.keep HB1.out)).mono ?_
  rw [H2.out]
  rintro e w2 ⟨rfl, hb⟩
  have HB2 := Lib.hid (HB1.out.trans (hb.mono HB1.out.size))
  have hbl := HB2.out
  clear hb HB1
  cases b2 with
  | false =>
    have HE : Hid (stE n f m t B = 2) := Lib.hid (by unfold stE; rw [H1.out, H2.out]; rfl)
    go_wp2_with fail
    refine bodyPost_ret (v := .tuple #[.slice none 0 0, .int .i64 2]) (by simp [results, Try.results18, go_sem]) rfl ⟨stepsR_no HE.out (by decide), by go_grown⟩
  | true =>
  by_cases x1 : B < 0
  · have HE : Hid (stE n f m t B = 2) := Lib.hid (by unfold stE; rw [H1.out, H2.out, decide_eq_false (show ¬ 0 ≤ B by omega)]; rfl)
    go_wp2_with fail
    refine bodyPost_ret (v := .tuple #[.slice none 0 0, .int .i64 2]) (by simp [results, Try.results18, go_sem]) rfl ⟨stepsR_no HE.out (by decide), by go_grown⟩
  by_cases x2 : 5000 < B
  · have HE : Hid (stE n f m t B = 2) := Lib.hid (by unfold stE; rw [H1.out, H2.out, decide_eq_false (show ¬ B ≤ 5000 by omega), Bool.and_false]; rfl)
    go_wp2_with fail
    refine bodyPost_ret (v := .tuple #[.slice none 0 0, .int .i64 2]) (by simp [results, Try.results18, go_sem]) rfl ⟨stepsR_no HE.out (by decide), by go_grown⟩
  have HEE : Hid (stE n f m t B = if sumI f n ≤ B ∧ sumI t n ≤ B then 0 else 62) := Lib.hid (by unfold stE; rw [H1.out, H2.out, decide_eq_true (show 0 ≤ B by omega), decide_eq_true (show B ≤ 5000 by omega)]; rfl)
  have HLE : Hid (1 ≤ n ∧ n ≤ 5) := Lib.hid (of_decide_eq_true (Bool.and_eq_true _ _ ▸ H1.out).1)
  have HFI : Hid (inTo f 0 1000 n = true) := Lib.hid (Bool.and_eq_true _ _ ▸ H1.out).2
  have hn5 := HLE.out.2
  have hmn : n = m := by have := (inB_iff.1 H2.out).1; omega
  subst hmn
  have HTI : Hid (inTo t 0 1000 n = true) := Lib.hid (inTo_iff.2 fun k hk => (inB_iff.1 H2.out).2 k hk)
  clear hbl
  go_wp2_with fail
  refine (held_any n cap ao f _ hn5 (HC.out.keep HB2.out)).mono ?_
  rintro e w3 ⟨rfl, hb⟩
  have HB3 := Lib.hid (HB2.out.trans (hb.mono HB2.out.size))
  clear hb HB2
  go_wp2_with fail
  refine (listSum_any _ _ _ _ _ _ (by have := pad_bd HFI.out 0; exact Nat.le_trans this (by decide)) (by have := pad_bd HFI.out 1; exact Nat.le_trans this (by decide)) (by have := pad_bd HFI.out 2; exact Nat.le_trans this (by decide)) (by have := pad_bd HFI.out 3; exact Nat.le_trans this (by decide)) (by have := pad_bd HFI.out 4; exact Nat.le_trans this (by decide))).mono ?_
  rintro e w4 ⟨rfl, hb⟩
  rw [pad_sum f hn5]
  have HB4 := Lib.hid (HB3.out.trans (hb.mono HB3.out.size))
  have hbl := HB4.out
  clear hb HB3
  by_cases s1 : B < sumI f n
  · have HE : Hid (stE n f n t B = 62) := Lib.hid (by rw [HEE.out, if_neg (by omega)])
    go_wp2_with fail
    refine bodyPost_ret (v := .tuple #[.slice none 0 0, .int .i64 62]) (by simp [results, Try.results18, go_sem]) rfl ⟨stepsR_no HE.out (by decide), by go_grown⟩
  clear hbl
  go_wp2_with fail
  refine (held_any n dap bo t _ hn5 (HD.out.keep HB4.out)).mono ?_
  rintro e w5 ⟨rfl, hb⟩
  have HB5 := Lib.hid (HB4.out.trans (hb.mono HB4.out.size))
  clear hb HB4
  go_wp2_with fail
  refine (listSum_any _ _ _ _ _ _ (by have := pad_bd HTI.out 0; exact Nat.le_trans this (by decide)) (by have := pad_bd HTI.out 1; exact Nat.le_trans this (by decide)) (by have := pad_bd HTI.out 2; exact Nat.le_trans this (by decide)) (by have := pad_bd HTI.out 3; exact Nat.le_trans this (by decide)) (by have := pad_bd HTI.out 4; exact Nat.le_trans this (by decide))).mono ?_
  rintro e w6 ⟨rfl, hb⟩
  rw [pad_sum t hn5]
  have HB6 := Lib.hid (HB5.out.trans (hb.mono HB5.out.size))
  have hbl := HB6.out
  clear hb HB5
  by_cases s2 : B < sumI t n
  · have HE : Hid (stE n f n t B = 62) := Lib.hid (by rw [HEE.out, if_neg (by omega)])
    go_wp2_with fail
    refine bodyPost_ret (v := .tuple #[.slice none 0 0, .int .i64 62]) (by simp [results, Try.results18, go_sem]) rfl ⟨stepsR_no HE.out (by decide), by go_grown⟩
  have HE : Hid (stE n f n t B = 0) := Lib.hid (by rw [HEE.out, if_pos (by omega)])
  obtain ⟨i0, hi, hz0, hz1, hz2⟩ := info_parts infoPair
  have HI := Lib.hid (And.intro hi (And.intro hz0 (And.intro hz1 hz2)))
  clear hi hz0 hz1 hz2 hbl HEE
  go_wp2_with fail
  go_loopw [9, 10, 46] (fun lv mv iv wr => ∃ (z : Int) (k : Nat), iv = .int .i64 z ∧ z = k ∧ k ≤ n ∧ Hid (wr.ownsRow w.heap.size 33 2 lv (selN (lessB f t) k) (selC (lessB f t) t k)) ∧ Hid (wr.ownsRow w.heap.size 33 2 mv (selN (moreB f t) k) (selC (moreB f t) t k)) ∧ Hid (Dis lv mv) ∧ Hid (Below w.heap.size w wr)) (fun _ _ iv _ => n - (intOf iv).toNat)
  case atStart => exact ⟨0, 0, rfl, by omega, by omega, Lib.hid (World.ownsRow_nil _ _ _ _), Lib.hid (World.ownsRow_nil _ _ _ _), Lib.hid (fun g h => by cases h), HB6⟩
  case round =>
    obtain ⟨z, k, rfl, hz, hk, HO1, HO2, HDI, HB⟩ := hrel
    by_cases hlt : k < n
    · have hlt' : z < (n : Int) := by omega
      subst hz
      have k0 : (0 : Int) ≤ (k : Int) := by omega
      have wz : wrap64 ((k : Int) + 1) = (k : Int) + 1 := by simp only [wrap64]; omega
      obtain ⟨b, o, rfl, hcell⟩ := (HC.out.keep HB.out) (Nat.zero_lt_of_lt hlt)
      obtain ⟨b', o', rfl, hcell'⟩ := (HD.out.keep HB.out) (Nat.zero_lt_of_lt hlt)
      have g0 := hcell k hlt
      have g1 := hcell' k hlt
      have hg0z := World.block_lt_of_cell? _ _ g0
      have hg1z := World.block_lt_of_cell? _ _ g1
      have hbl := HB.out
      have hsz := hbl.size
      clear hcell hcell' HB6
      obtain ⟨x, hx⟩ : ∃ x, f k = x := ⟨_, rfl⟩
      obtain ⟨y, hy⟩ : ∃ y, t k = y := ⟨_, rfl⟩
      rw [hx] at g0
      rw [hy] at g1
      by_cases c1 : y < x
      · have HL : Hid (selN (lessB f t) (k + 1) = selN (lessB f t) k + 1 ∧ selC (lessB f t) t (k + 1) = selC (lessB f t) t k ++ [.int .i64 k, .int .i64 y]) := Lib.hid ⟨if_pos (decide_eq_true (by rw [hx, hy]; exact c1)), by rw [← hy]; exact if_pos (decide_eq_true (by rw [hx, hy]; exact c1))⟩
        have HM : Hid (selN (moreB f t) (k + 1) = selN (moreB f t) k ∧ selC (moreB f t) t (k + 1) = selC (moreB f t) t k) := Lib.hid ⟨if_neg (by unfold moreB; rw [decide_eq_false (by omega)]; decide), if_neg (by unfold moreB; rw [decide_eq_false (by omega)]; decide)⟩
        have c2 : ¬ x < y := by omega
        clear hx hy
        go_wp2_with (at_builtin; refine wpList_append_own_at _ rfl (.tmp 58) (.tmp 62) 30 rfl w.heap.size 33 i0 _ 2 16 Try.underlying30 HI.out.1 HI.out.2.1 HI.out.2.2.1 HI.out.2.2.2 rfl (by decide) _ (selN (lessB f t) k) (selC (lessB f t) t k) rfl (HO1.out.alloc _) ⟨wr.heap.size, 0, none⟩ 1 1 [.int .i64 k, .int .i64 y] rfl rfl ?d1 ?d2 ?d3 ?d4 ?d5 ?_)
        (try (case d1 => exact fun j u hu => World.news_of_block (cs := #[.int .i64 k, .int .i64 y]) (heap_new wr _) j u hu))
        case d2 => first | exact ⟨rfl, rfl⟩ | (intro u hu; simp only [List.mem_cons, List.not_mem_nil, or_false] at hu; rcases hu with rfl | rfl <;> rfl)
        case d3 => have := selN_le (lessB f t) k; unfold maxLen; omega
        case d4 => have := selN_le (lessB f t) k; omega
        case d5 => first | omega | (simp; done) | (simp; omega)
        intro v' w3 hown' hgrow _ hat
        have hlt2 := HO2.out.lt
        have HN1 : Hid (w3.ownsRow w.heap.size 33 2 v' (selN (lessB f t) (k + 1)) (selC (lessB f t) t (k + 1))) := Lib.hid (by rw [HL.out.1, HL.out.2]; exact hown')
        have HN2 : Hid (w3.ownsRow w.heap.size 33 2 _ (selN (moreB f t) (k + 1)) (selC (moreB f t) t (k + 1))) := Lib.hid (by rw [HM.out.1, HM.out.2]; exact (HO2.out.alloc _).kept hgrow HDI.out.kept)
        have HND : Hid (Dis v' _) := Lib.hid (HDI.out.next hat (fun q hq => by have := (hlt2 q hq).2; first | omega | (simp; omega)))
        have hlt1 := HO1.out.lt
        have HB3 : Hid (Below w.heap.size w w3) := Lib.hid (Below.grown (hbl.alloc hsz _) hgrow (by first | omega | (simp; omega)) (fun q hq => (hlt1 q hq).1))
        clear hown' hgrow hat hlt2 hlt1 g0 g1 hg0z hg1z HO1 HO2 HDI HB hbl hsz
        go_wp2_with fail
        go_roundw
        case rel => exact ⟨(k : Int) + 1, k + 1, by first | rfl | rw [wz], by omega, by omega, HN1, HN2, HND, HB3⟩
        case measure => first | (simp [intOf]; done) | (simp [intOf]; omega)
      · by_cases c2 : x < y
        · have HM : Hid (selN (moreB f t) (k + 1) = selN (moreB f t) k + 1 ∧ selC (moreB f t) t (k + 1) = selC (moreB f t) t k ++ [.int .i64 k, .int .i64 y]) := Lib.hid ⟨if_pos (decide_eq_true (by rw [hx, hy]; exact c2)), by rw [← hy]; exact if_pos (decide_eq_true (by rw [hx, hy]; exact c2))⟩
          have HL : Hid (selN (lessB f t) (k + 1) = selN (lessB f t) k ∧ selC (lessB f t) t (k + 1) = selC (lessB f t) t k) := Lib.hid ⟨if_neg (by unfold lessB; rw [decide_eq_false (by omega)]; decide), if_neg (by unfold lessB; rw [decide_eq_false (by omega)]; decide)⟩
          clear hx hy
          go_wp2_with (at_builtin; refine wpList_append_own_at _ rfl (.tmp 71) (.tmp 75) 30 rfl w.heap.size 33 i0 _ 2 16 Try.underlying30 HI.out.1 HI.out.2.1 HI.out.2.2.1 HI.out.2.2.2 rfl (by decide) _ (selN (moreB f t) k) (selC (moreB f t) t k) rfl (HO2.out.alloc _) ⟨wr.heap.size, 0, none⟩ 1 1 [.int .i64 k, .int .i64 y] rfl rfl ?q1 ?q2 ?q3 ?q4 ?q5 ?_)
          (try (case q1 => exact fun j u hu => World.news_of_block (cs := #[.int .i64 k, .int .i64 y]) (heap_new wr _) j u hu))
          case q2 => first | exact ⟨rfl, rfl⟩ | (intro u hu; simp only [List.mem_cons, List.not_mem_nil, or_false] at hu; rcases hu with rfl | rfl <;> rfl)
          case q3 => have := selN_le (moreB f t) k; unfold maxLen; omega
          case q4 => have := selN_le (moreB f t) k; omega
          case q5 => first | omega | (simp; done) | (simp; omega)
          intro v' w3 hown' hgrow _ hat
          have hlt1 := HO1.out.lt
          have HN2 : Hid (w3.ownsRow w.heap.size 33 2 v' (selN (moreB f t) (k + 1)) (selC (moreB f t) t (k + 1))) := Lib.hid (by rw [HM.out.1, HM.out.2]; exact hown')
          have HN1 : Hid (w3.ownsRow w.heap.size 33 2 _ (selN (lessB f t) (k + 1)) (selC (lessB f t) t (k + 1))) := Lib.hid (by rw [HL.out.1, HL.out.2]; exact (HO1.out.alloc _).kept hgrow HDI.out.symm.kept)
          have HND : Hid (Dis _ v') := Lib.hid (HDI.out.symm.next hat (fun q hq => by have := (hlt1 q hq).2; first | omega | (simp; omega))).symm
          have hlt2 := HO2.out.lt
          have HB3 : Hid (Below w.heap.size w w3) := Lib.hid (Below.grown (hbl.alloc hsz _) hgrow (by first | omega | (simp; omega)) (fun q hq => (hlt2 q hq).1))
          clear hown' hgrow hat hlt2 hlt1 g0 g1 hg0z hg1z HO1 HO2 HDI HB hbl hsz
          go_wp2_with fail
          go_roundw
          case rel => exact ⟨(k : Int) + 1, k + 1, by first | rfl | rw [wz], by omega, by omega, HN1, HN2, HND, HB3⟩
          case measure => first | (simp [intOf]; done) | (simp [intOf]; omega)
        · have HL : Hid (selN (lessB f t) (k + 1) = selN (lessB f t) k ∧ selC (lessB f t) t (k + 1) = selC (lessB f t) t k) := Lib.hid ⟨if_neg (by unfold lessB; rw [decide_eq_false (by omega)]; decide), if_neg (by unfold lessB; rw [decide_eq_false (by omega)]; decide)⟩
          have HM : Hid (selN (moreB f t) (k + 1) = selN (moreB f t) k ∧ selC (moreB f t) t (k + 1) = selC (moreB f t) t k) := Lib.hid ⟨if_neg (by unfold moreB; rw [decide_eq_false (by omega)]; decide), if_neg (by unfold moreB; rw [decide_eq_false (by omega)]; decide)⟩
          have HN1 : Hid (wr.ownsRow w.heap.size 33 2 _ (selN (lessB f t) (k + 1)) (selC (lessB f t) t (k + 1))) := Lib.hid (by rw [HL.out.1, HL.out.2]; exact HO1.out)
          have HN2 : Hid (wr.ownsRow w.heap.size 33 2 _ (selN (moreB f t) (k + 1)) (selC (moreB f t) t (k + 1))) := Lib.hid (by rw [HM.out.1, HM.out.2]; exact HO2.out)
          have HND := HDI
          have HB3 := HB
          clear hx hy HO1 HO2 HDI HB hbl hsz
          go_wp2_with fail
          go_roundw
          case rel => exact ⟨(k : Int) + 1, k + 1, by first | rfl | rw [wz], by omega, by omega, HN1, HN2, HND, HB3⟩
          case measure => first | (simp [intOf]; done) | (simp [intOf]; omega)
    · obtain rfl : k = n := by omega
      subst hz
      have hbl := HB.out
      have hsz := hbl.size
      have hk5 := HLE.out.2
      have hl1 := selN_le (lessB f t) k
      have hl2 := selN_le (moreB f t) k
      have hlt1 := HO1.out.lt
      rcases HO2.out.2 with ⟨hv2, hz2⟩ | ⟨g2, cap2, cur2, hv2, hg2, _⟩
      · subst hv2
        have hN2 : selC (moreB f t) t k = [] := List.eq_nil_of_length_eq_zero (by rw [selC_len, hz2])
        have HF : Hid (wr.ownsRow w.heap.size 33 2 _ (selN (lessB f t) k + selN (moreB f t) k) (selC (lessB f t) t k ++ selC (moreB f t) t k)) := Lib.hid (by rw [hz2, hN2, List.append_nil, Nat.add_zero]; exact HO1.out)
        have HO1' := HO1
        clear hz2 hN2 hlt1
        go_wp2_with (at_builtin; refine wpList_append_own_none rfl (.tmp 78) (.tmp 79) 30 rfl w.heap.size 33 i0 2 Try.underlying30 HI.out.1 _ (selN (lessB f t) k) (selC (lessB f t) t k) rfl HO1'.out rfl ?_)
        go_wp2_with fail
        go_returns
        exact ⟨stepsR_ok HE.out HF.out, hbl⟩
      · subst hv2
        go_wp2_with (at_builtin; refine wpList_append_own_at _ rfl (.tmp 78) (.tmp 79) 30 rfl w.heap.size 33 i0 _ 2 16 Try.underlying30 HI.out.1 HI.out.2.1 HI.out.2.2.1 HI.out.2.2.2 rfl (by decide) _ (selN (lessB f t) k) (selC (lessB f t) t k) rfl HO1.out ⟨g2, 0, none⟩ (selN (moreB f t) k) cap2 (selC (moreB f t) t k) rfl ?p0 ?p1 ?p2 ?p3 ?p4 ?p5 ?_)
        case p0 => exact selC_len _ _ _
        case p1 => exact HO2.out.cells rfl
        case p2 => exact selC_one _ _ _
        case p3 => unfold maxLen; omega
        case p4 => omega
        case p5 => omega
        intro v' w3 hown' hgrow _ _
        have HF := Lib.hid hown'
        have HBF : Hid (Below w.heap.size w w3) := Lib.hid (Below.grown hbl hgrow (by omega) (fun q hq => (hlt1 q hq).1))
        clear hown' hgrow
        go_wp2_with fail
        go_returns
        exact ⟨stepsR_ok HE.out HF.out, HBF.out⟩
end Go.Proofs.Ytldepffpafccpaa
