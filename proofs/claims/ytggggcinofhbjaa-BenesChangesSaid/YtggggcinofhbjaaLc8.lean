import Derived.Test.YtggggcinofhbjaaLr8
namespace Ben
/-- Where two lists of truth values differ. -/
def dif (s t : Nat → Bool) : Nat → List Nat
  | 0 => []
  | k + 1 => if s k = t k then dif s t k else dif s t k ++ [k]
theorem dif_same {s t : Nat → Bool} {k : Nat} (h : s k = t k) : dif s t (k + 1) = dif s t k := by
  show (if s k = t k then _ else _) = _
  rw [if_pos h]
theorem dif_diff {s t : Nat → Bool} {k : Nat} (h : ¬ s k = t k) : dif s t (k + 1) = dif s t k ++ [k] := by
  show (if s k = t k then _ else _) = _
  rw [if_neg h]
theorem dif_le (s t : Nat → Bool) : ∀ k, (dif s t k).length ≤ k
  | 0 => Nat.le_refl _
  | k + 1 => by
    have := dif_le s t k
    unfold dif
    split
    · omega
    · rw [List.length_append]; simp only [List.length_cons, List.length_nil]; omega
/-- The error of Changed. -/
def dfE (n m : Nat) : Int := if n = m ∧ n ≤ 1000 then 0 else 2
end Ben
namespace Go.Proofs.Ytggggcinofhbjaa
open Go.RowKit Ben
/-- What comes back of Changed where all is well. -/
def ChgR (B : Nat) (w : World) (e : Ending) (n : Nat) (s t : Nat → Bool) : Prop := ∃ V, e = .returned (.tuple #[V, .int .i64 0]) ∧ w.ownsRow B 3 1 V (dif s t n).length (cellsN (dif s t n))
set_option maxRecDepth 100000 in
set_option maxHeartbeats 4000000 in
theorem pChanged_no (n m cap dap : Nat) (ao bo : Option Addr) (w : World) (hn : n ≤ 1010) (hm : m ≤ 1010) (he : ¬ (n = m ∧ n ≤ 1000)) :
    Calls Try.prog 41 #[.slice ao n cap, .slice bo m dap] w fun e w' => e = .returned (.tuple #[.slice none 0 0, .int .i64 2]) ∧ w = w' := by
  by_cases h : n = m
  · subst h
    have h1 : ((n : Int) != (n : Int)) = false := by simp
    have h2 : 1000 < (n : Int) := by omega
    clear he
    go_enter Try.func41, Try.ntmps41
    go_wp2_with fail
    go_ret2
    exact ⟨rfl, rfl⟩
  · have h1 : ((n : Int) != (m : Int)) = true := bne_iff_ne.2 (by omega)
    clear he h
    go_enter Try.func41, Try.ntmps41
    go_wp2_with fail
    go_ret2
    exact ⟨rfl, rfl⟩
set_option maxRecDepth 100000 in
set_option maxHeartbeats 8000000 in
theorem pChanged_ok (n cap dap : Nat) (ao bo : Option Addr) (s t : Nat → Bool) (w : World) (hn : n ≤ 1000) (hc : Bools w ao n s) (hd : Bools w bo n t) :
    Calls Try.prog 41 #[.slice ao n cap, .slice bo n dap] w fun e w' => ChgR w.heap.size w' e n s t ∧ Below w.heap.size w w' := by
  obtain ⟨i0, hi0, hz0, hz1, hz2⟩ := info_parts infoInt
  have HI := Lib.hid (And.intro hi0 (And.intro hz0 (And.intro hz1 hz2)))
  have HC := Lib.hid hc
  have HD := Lib.hid hd
  have h1 : ((n : Int) != (n : Int)) = false := by simp
  have h2 : ¬ 1000 < (n : Int) := by omega
  clear hc hd hi0 hz0 hz1 hz2
  go_enter Try.func41, Try.ntmps41
  go_wp2_with fail
  go_loopw [6, 20] (fun ov iv wr => ∃ (V : Value) (z : Int) (k : Nat), V = ov ∧ iv = .int .i64 z ∧ z = k ∧ k ≤ n ∧ Hid (wr.ownsRow w.heap.size 3 1 V (dif s t k).length (cellsN (dif s t k))) ∧ Hid (Below w.heap.size w wr)) (fun _ iv _ => n - (intOf iv).toNat)
  case atStart => exact ⟨_, 0, 0, rfl, rfl, by omega, by omega, Lib.hid (World.ownsRow_nil _ _ _ _), Lib.hid (Below.refl _ _)⟩
  case round =>
    obtain ⟨V, z, k, rfl, rfl, hz, hk, HO, HB⟩ := hrel
    by_cases hlt : k < n
    · have hlt' : z < (n : Int) := by omega
      subst hz
      have k00 : (0 : Int) ≤ (k : Int) := by omega
      have wz : wrap64 ((k : Int) + 1) = (k : Int) + 1 := by simp only [wrap64]; omega
      obtain ⟨b, o, rfl, hcell⟩ := (HC.out.keep HB.out) (by omega)
      obtain ⟨b', o', rfl, hcell'⟩ := (HD.out.keep HB.out) (by omega)
      have c0 := hcell k hlt
      have d0 := hcell' k hlt
      clear hcell hcell'
      have hdl := dif_le s t k
      cases hx : s k <;> cases hy : t k
      · rw [hx] at c0
        rw [hy] at d0
        have HO2 : Hid (wr.drew.ownsRow w.heap.size 3 1 V (dif s t (k + 1)).length (cellsN (dif s t (k + 1)))) := Lib.hid (by
          rw [dif_same (by rw [hx, hy])]
          exact HO.out)
        have HB2 : Hid (Below w.heap.size w wr.drew) := Lib.hid HB.out.drew
        clear hx hy HO HB
        go_wp2_with fail
        go_region
        all_goals
          go_wp2_with fail
          go_roundw
          case rel => exact ⟨V, (k : Int) + 1, k + 1, rfl, by first | rfl | rw [wz], by clear wz; omega, by clear wz; omega, HO2, HB2⟩
          case measure => clear wz; first | (simp [intOf]; done) | (simp [intOf]; omega)
      · rw [hx] at c0
        rw [hy] at d0
        have HDF : Hid (dif s t (k + 1) = dif s t k ++ [k]) := Lib.hid (dif_diff (by rw [hx, hy]; decide))
        have HOd : Hid (wr.drew.ownsRow w.heap.size 3 1 V (dif s t k).length (cellsN (dif s t k))) := Lib.hid HO.out
        have hbl : Below w.heap.size w wr.drew := HB.out.drew
        have hblz := hbl.size
        have HLT := Lib.hid HOd.out.lt
        clear hx hy HO HB
        go_wp2_with fail
        go_region
        generalize wr.drew = wd at *
        go_wp2_with (at_builtin; refine wpList_append_own _ rfl (.tmp 32) (.tmp 34) 28 rfl w.heap.size 3 i0 _ 1 8 Try.underlying28 HI.out.1 HI.out.2.1 HI.out.2.2.1 HI.out.2.2.2 rfl (by decide) _ (dif s t k).length (cellsN (dif s t k)) rfl (HOd.out.alloc _) ⟨wd.heap.size, 0, none⟩ 1 1 [.int .i64 (k : Int)] rfl rfl ?e1 ?e2 ?e3 ?e4 ?e5 ?_)
        try (case e1 => exact fun j u hu => World.news_of_block (cs := #[.int .i64 (k : Int)]) (heap_new wd _) j u hu)
        case e2 => first | (intro u hu; simp only [List.mem_cons, List.not_mem_nil, or_false] at hu; subst hu; rfl) | rfl
        case e3 => unfold maxLen; clear wz; omega
        case e4 => clear wz; omega
        try (case e5 => first | (clear wz; omega) | (simp; done) | (simp; omega))
        intro v' w5 hown' hgrow _
        have HO5 : Hid (w5.ownsRow w.heap.size 3 1 v' (dif s t (k + 1)).length (cellsN (dif s t (k + 1)))) := Lib.hid (by
          rw [HDF.out, List.length_append]
          unfold cellsN
          rw [List.map_append]
          exact hown')
        have HB5 : Hid (Below w.heap.size w w5) := Lib.hid (Below.grown (hbl.alloc hblz _) hgrow (by first | (clear wz; omega) | (simp; omega)) (fun p hp => (HLT.out p hp).1))
        clear hown' hgrow HOd hbl hblz HLT
        go_wp2_with fail
        go_roundw
        case rel => exact ⟨v', (k : Int) + 1, k + 1, rfl, by first | rfl | rw [wz], by clear wz; omega, by clear wz; omega, HO5, HB5⟩
        case measure => clear wz; first | (simp [intOf]; done) | (simp [intOf]; omega)
      · rw [hx] at c0
        rw [hy] at d0
        have HDF : Hid (dif s t (k + 1) = dif s t k ++ [k]) := Lib.hid (dif_diff (by rw [hx, hy]; decide))
        have HOd : Hid (wr.drew.ownsRow w.heap.size 3 1 V (dif s t k).length (cellsN (dif s t k))) := Lib.hid HO.out
        have hbl : Below w.heap.size w wr.drew := HB.out.drew
        have hblz := hbl.size
        have HLT := Lib.hid HOd.out.lt
        clear hx hy HO HB
        go_wp2_with fail
        go_region
        generalize wr.drew = wd at *
        go_wp2_with (at_builtin; refine wpList_append_own _ rfl (.tmp 32) (.tmp 34) 28 rfl w.heap.size 3 i0 _ 1 8 Try.underlying28 HI.out.1 HI.out.2.1 HI.out.2.2.1 HI.out.2.2.2 rfl (by decide) _ (dif s t k).length (cellsN (dif s t k)) rfl (HOd.out.alloc _) ⟨wd.heap.size, 0, none⟩ 1 1 [.int .i64 (k : Int)] rfl rfl ?h1 ?h2 ?h3 ?h4 ?h5 ?_)
        try (case h1 => exact fun j u hu => World.news_of_block (cs := #[.int .i64 (k : Int)]) (heap_new wd _) j u hu)
        case h2 => first | (intro u hu; simp only [List.mem_cons, List.not_mem_nil, or_false] at hu; subst hu; rfl) | rfl
        case h3 => unfold maxLen; clear wz; omega
        case h4 => clear wz; omega
        try (case h5 => first | (clear wz; omega) | (simp; done) | (simp; omega))
        intro v' w5 hown' hgrow _
        have HO5 : Hid (w5.ownsRow w.heap.size 3 1 v' (dif s t (k + 1)).length (cellsN (dif s t (k + 1)))) := Lib.hid (by
          rw [HDF.out, List.length_append]
          unfold cellsN
          rw [List.map_append]
          exact hown')
        have HB5 : Hid (Below w.heap.size w w5) := Lib.hid (Below.grown (hbl.alloc hblz _) hgrow (by first | (clear wz; omega) | (simp; omega)) (fun p hp => (HLT.out p hp).1))
        clear hown' hgrow HOd hbl hblz HLT
        go_wp2_with fail
        go_roundw
        case rel => exact ⟨v', (k : Int) + 1, k + 1, rfl, by first | rfl | rw [wz], by clear wz; omega, by clear wz; omega, HO5, HB5⟩
        case measure => clear wz; first | (simp [intOf]; done) | (simp [intOf]; omega)
      · rw [hx] at c0
        rw [hy] at d0
        have HO2 : Hid (wr.drew.ownsRow w.heap.size 3 1 V (dif s t (k + 1)).length (cellsN (dif s t (k + 1)))) := Lib.hid (by
          rw [dif_same (by rw [hx, hy])]
          exact HO.out)
        have HB2 : Hid (Below w.heap.size w wr.drew) := Lib.hid HB.out.drew
        clear hx hy HO HB
        go_wp2_with fail
        go_region
        all_goals
          go_wp2_with fail
          go_roundw
          case rel => exact ⟨V, (k : Int) + 1, k + 1, rfl, by first | rfl | rw [wz], by clear wz; omega, by clear wz; omega, HO2, HB2⟩
          case measure => clear wz; first | (simp [intOf]; done) | (simp [intOf]; omega)
    · have hzn : ¬ z < (n : Int) := by omega
      obtain rfl : k = n := by omega
      subst hz
      have hbl := HB.out
      clear HB
      go_wp2_with fail
      go_ret2
      exact ⟨⟨_, rfl, HO.out⟩, hbl⟩
set_option maxRecDepth 100000 in
set_option maxHeartbeats 4000000 in
theorem rChanged_no (n m cap dap : Nat) (ao bo : Option Addr) (w : World) (hn : n ≤ 1010) (hm : m ≤ 1010) (he : ¬ (n = m ∧ n ≤ 1000)) :
    Calls Try.prog 42 #[.slice ao n cap, .slice bo m dap] w fun e w' => e = .returned (.tuple #[.slice none 0 0, .int .i64 2]) ∧ w = w' := by
  by_cases h : n = m
  · subst h
    have h1 : ((n : Int) != (n : Int)) = false := by simp
    have h2 : 1000 < (n : Int) := by omega
    clear he
    go_enter Try.func42, Try.ntmps42
    go_wp2_with fail
    go_ret2
    exact ⟨rfl, rfl⟩
  · have h1 : ((n : Int) != (m : Int)) = true := bne_iff_ne.2 (by omega)
    clear he h
    go_enter Try.func42, Try.ntmps42
    go_wp2_with fail
    go_ret2
    exact ⟨rfl, rfl⟩
set_option maxRecDepth 100000 in
set_option maxHeartbeats 8000000 in
theorem rChanged_ok (n cap dap : Nat) (ao bo : Option Addr) (s t : Nat → Bool) (w : World) (hn : n ≤ 1000) (hc : Bools w ao n s) (hd : Bools w bo n t) :
    Calls Try.prog 42 #[.slice ao n cap, .slice bo n dap] w fun e w' => ChgR w.heap.size w' e n s t ∧ Below w.heap.size w w' := by
  obtain ⟨i0, hi0, hz0, hz1, hz2⟩ := info_parts infoInt
  have HI := Lib.hid (And.intro hi0 (And.intro hz0 (And.intro hz1 hz2)))
  have HC := Lib.hid hc
  have HD := Lib.hid hd
  have h1 : ((n : Int) != (n : Int)) = false := by simp
  have h2 : ¬ 1000 < (n : Int) := by omega
  clear hc hd hi0 hz0 hz1 hz2
  go_enter Try.func42, Try.ntmps42
  go_wp2_with fail
  go_loopw [6, 7] (fun ov iv wr => ∃ (V : Value) (z : Int) (k : Nat), V = ov ∧ iv = .int .i64 z ∧ z = k ∧ k ≤ n ∧ Hid (wr.ownsRow w.heap.size 3 1 V (dif s t k).length (cellsN (dif s t k))) ∧ Hid (Below w.heap.size w wr)) (fun _ iv _ => n - (intOf iv).toNat)
  case atStart => exact ⟨_, 0, 0, rfl, rfl, by omega, by omega, Lib.hid (World.ownsRow_nil _ _ _ _), Lib.hid (Below.refl _ _)⟩
  case round =>
    obtain ⟨V, z, k, rfl, rfl, hz, hk, HO, HB⟩ := hrel
    by_cases hlt : k < n
    · have hlt' : z < (n : Int) := by omega
      subst hz
      have k00 : (0 : Int) ≤ (k : Int) := by omega
      have wz : wrap64 ((k : Int) + 1) = (k : Int) + 1 := by simp only [wrap64]; omega
      obtain ⟨b, o, rfl, hcell⟩ := (HC.out.keep HB.out) (by omega)
      obtain ⟨b', o', rfl, hcell'⟩ := (HD.out.keep HB.out) (by omega)
      have c0 := hcell k hlt
      have d0 := hcell' k hlt
      clear hcell hcell'
      have hdl := dif_le s t k
      cases hx : s k <;> cases hy : t k
      · rw [hx] at c0
        rw [hy] at d0
        have HO2 : Hid (wr.drew.ownsRow w.heap.size 3 1 V (dif s t (k + 1)).length (cellsN (dif s t (k + 1)))) := Lib.hid (by
          rw [dif_same (by rw [hx, hy])]
          exact HO.out)
        have HB2 : Hid (Below w.heap.size w wr.drew) := Lib.hid HB.out.drew
        clear hx hy HO HB
        go_wp2_with fail
        go_region
        all_goals
          go_wp2_with fail
          go_roundw
          case rel => exact ⟨V, (k : Int) + 1, k + 1, rfl, by first | rfl | rw [wz], by clear wz; omega, by clear wz; omega, HO2, HB2⟩
          case measure => clear wz; first | (simp [intOf]; done) | (simp [intOf]; omega)
      · rw [hx] at c0
        rw [hy] at d0
        have HDF : Hid (dif s t (k + 1) = dif s t k ++ [k]) := Lib.hid (dif_diff (by rw [hx, hy]; decide))
        have HOd : Hid (wr.drew.ownsRow w.heap.size 3 1 V (dif s t k).length (cellsN (dif s t k))) := Lib.hid HO.out
        have hbl : Below w.heap.size w wr.drew := HB.out.drew
        have hblz := hbl.size
        have HLT := Lib.hid HOd.out.lt
        clear hx hy HO HB
        go_wp2_with fail
        go_region
        generalize wr.drew = wd at *
        go_wp2_with (at_builtin; refine wpList_append_own _ rfl (.tmp 33) (.tmp 35) 28 rfl w.heap.size 3 i0 _ 1 8 Try.underlying28 HI.out.1 HI.out.2.1 HI.out.2.2.1 HI.out.2.2.2 rfl (by decide) _ (dif s t k).length (cellsN (dif s t k)) rfl (HOd.out.alloc _) ⟨wd.heap.size, 0, none⟩ 1 1 [.int .i64 (k : Int)] rfl rfl ?e1 ?e2 ?e3 ?e4 ?e5 ?_)
        try (case e1 => exact fun j u hu => World.news_of_block (cs := #[.int .i64 (k : Int)]) (heap_new wd _) j u hu)
        case e2 => first | (intro u hu; simp only [List.mem_cons, List.not_mem_nil, or_false] at hu; subst hu; rfl) | rfl
        case e3 => unfold maxLen; clear wz; omega
        case e4 => clear wz; omega
        try (case e5 => first | (clear wz; omega) | (simp; done) | (simp; omega))
        intro v' w5 hown' hgrow _
        have HO5 : Hid (w5.ownsRow w.heap.size 3 1 v' (dif s t (k + 1)).length (cellsN (dif s t (k + 1)))) := Lib.hid (by
          rw [HDF.out, List.length_append]
          unfold cellsN
          rw [List.map_append]
          exact hown')
        have HB5 : Hid (Below w.heap.size w w5) := Lib.hid (Below.grown (hbl.alloc hblz _) hgrow (by first | (clear wz; omega) | (simp; omega)) (fun p hp => (HLT.out p hp).1))
        clear hown' hgrow HOd hbl hblz HLT
        go_wp2_with fail
        go_roundw
        case rel => exact ⟨v', (k : Int) + 1, k + 1, rfl, by first | rfl | rw [wz], by clear wz; omega, by clear wz; omega, HO5, HB5⟩
        case measure => clear wz; first | (simp [intOf]; done) | (simp [intOf]; omega)
      · rw [hx] at c0
        rw [hy] at d0
        have HDF : Hid (dif s t (k + 1) = dif s t k ++ [k]) := Lib.hid (dif_diff (by rw [hx, hy]; decide))
        have HOd : Hid (wr.drew.ownsRow w.heap.size 3 1 V (dif s t k).length (cellsN (dif s t k))) := Lib.hid HO.out
        have hbl : Below w.heap.size w wr.drew := HB.out.drew
        have hblz := hbl.size
        have HLT := Lib.hid HOd.out.lt
        clear hx hy HO HB
        go_wp2_with fail
        go_region
        generalize wr.drew = wd at *
        go_wp2_with (at_builtin; refine wpList_append_own _ rfl (.tmp 33) (.tmp 35) 28 rfl w.heap.size 3 i0 _ 1 8 Try.underlying28 HI.out.1 HI.out.2.1 HI.out.2.2.1 HI.out.2.2.2 rfl (by decide) _ (dif s t k).length (cellsN (dif s t k)) rfl (HOd.out.alloc _) ⟨wd.heap.size, 0, none⟩ 1 1 [.int .i64 (k : Int)] rfl rfl ?h1 ?h2 ?h3 ?h4 ?h5 ?_)
        try (case h1 => exact fun j u hu => World.news_of_block (cs := #[.int .i64 (k : Int)]) (heap_new wd _) j u hu)
        case h2 => first | (intro u hu; simp only [List.mem_cons, List.not_mem_nil, or_false] at hu; subst hu; rfl) | rfl
        case h3 => unfold maxLen; clear wz; omega
        case h4 => clear wz; omega
        try (case h5 => first | (clear wz; omega) | (simp; done) | (simp; omega))
        intro v' w5 hown' hgrow _
        have HO5 : Hid (w5.ownsRow w.heap.size 3 1 v' (dif s t (k + 1)).length (cellsN (dif s t (k + 1)))) := Lib.hid (by
          rw [HDF.out, List.length_append]
          unfold cellsN
          rw [List.map_append]
          exact hown')
        have HB5 : Hid (Below w.heap.size w w5) := Lib.hid (Below.grown (hbl.alloc hblz _) hgrow (by first | (clear wz; omega) | (simp; omega)) (fun p hp => (HLT.out p hp).1))
        clear hown' hgrow HOd hbl hblz HLT
        go_wp2_with fail
        go_roundw
        case rel => exact ⟨v', (k : Int) + 1, k + 1, rfl, by first | rfl | rw [wz], by clear wz; omega, by clear wz; omega, HO5, HB5⟩
        case measure => clear wz; first | (simp [intOf]; done) | (simp [intOf]; omega)
      · rw [hx] at c0
        rw [hy] at d0
        have HO2 : Hid (wr.drew.ownsRow w.heap.size 3 1 V (dif s t (k + 1)).length (cellsN (dif s t (k + 1)))) := Lib.hid (by
          rw [dif_same (by rw [hx, hy])]
          exact HO.out)
        have HB2 : Hid (Below w.heap.size w wr.drew) := Lib.hid HB.out.drew
        clear hx hy HO HB
        go_wp2_with fail
        go_region
        all_goals
          go_wp2_with fail
          go_roundw
          case rel => exact ⟨V, (k : Int) + 1, k + 1, rfl, by first | rfl | rw [wz], by clear wz; omega, by clear wz; omega, HO2, HB2⟩
          case measure => clear wz; first | (simp [intOf]; done) | (simp [intOf]; omega)
    · have hzn : ¬ z < (n : Int) := by omega
      obtain rfl : k = n := by omega
      subst hz
      have hbl := HB.out
      clear HB
      go_wp2_with fail
      go_ret2
      exact ⟨⟨_, rfl, HO.out⟩, hbl⟩
theorem own_ints {w : World} {B : Nat} {E : TypeId} {V : Value} {l : List Nat} (h : w.ownsRow B E 1 V l.length (cellsN l)) : ∃ ao cap, V = .slice ao l.length cap ∧ Ints w ao l.length (fn l) := by
  rcases h.2 with ⟨h1, h2⟩ | ⟨g, cap, cur, h1, h2, h3⟩
  · exact ⟨none, 0, by rw [h1, h2], fun hn => absurd hn (by omega)⟩
  · subst h1
    exact ⟨_, cap, rfl, (Intw_own h).ints⟩
set_option maxRecDepth 100000 in
set_option maxHeartbeats 4000000 in
theorem BenesChanges_any (n cap : Nat) (ao : Option Addr) (s : Nat → Bool) (m dap : Nat) (bo : Option Addr) (t : Nat → Bool) (w : World) (hn : n ≤ 9223372036854775807) (hc : Bools w ao n s) (hm : m ≤ 9223372036854775807) (hd : Bools w bo m t) :
    Calls Try.prog 12 #[.slice ao n cap, .slice bo m dap] w fun e w' => e = .returned (.bool true) ∧ Below w.heap.size w w' := by
  have HC := Lib.hid hc
  have HD := Lib.hid hd
  clear hc hd
  by_cases h80 : 1010 < (n : Int)
  · go_enter Try.func12, Try.ntmps12
    go_wp2_with fail
    refine (sane_any _).mono ?_
    rintro e w1 ⟨rfl, hb⟩
    go_wp2_with fail
    go_returns
    exact ⟨rfl, hb⟩
  by_cases h40 : 1010 < (m : Int)
  · go_enter Try.func12, Try.ntmps12
    go_wp2_with fail
    refine (sane_any _).mono ?_
    rintro e w1 ⟨rfl, hb⟩
    go_wp2_with fail
    go_returns
    exact ⟨rfl, hb⟩
  have h80' : n ≤ 1010 := by omega
  have h40' : m ≤ 1010 := by omega
  by_cases he : n = m ∧ n ≤ 1000
  · obtain ⟨rfl, hn1⟩ := he
    go_enter Try.func12, Try.ntmps12
    go_wp2_with fail
    refine (pChanged_ok n cap dap ao bo s t _ hn1 HC.out HD.out).mono ?_
    rintro e w1 ⟨⟨V1, rfl, hV1⟩, hb⟩
    obtain ⟨a1, c1, rfl, hI1⟩ := own_ints hV1
    have HI1 := Lib.hid hI1
    have HB1 := Lib.hid hb
    have HC1 := Lib.hid (HC.out.keep hb)
    have HD1 := Lib.hid (HD.out.keep hb)
    clear hb hV1 hI1
    go_wp2_with fail
    refine (rChanged_ok n cap dap ao bo s t _ hn1 HC1.out HD1.out).mono ?_
    rintro e w2 ⟨⟨V2, rfl, hV2⟩, hb⟩
    obtain ⟨a2, c2, rfl, hI2⟩ := own_ints hV2
    have HI2 := Lib.hid hI2
    have HI12 := Lib.hid (HI1.out.keep hb)
    have HB2 := Lib.hid (HB1.out.trans (hb.mono HB1.out.size))
    have hdl := dif_le s t n
    clear hb hV2 hI2 HB1 HC1 HD1 HI1
    have HSB : Hid (Prm.sameB (dif s t n).length (dif s t n).length (fn (dif s t n)) (fn (dif s t n)) = true) := Lib.hid (Prm.sameB_yes fun _ _ => rfl)
    go_wp2_with fail
    refine (same_any (dif s t n).length (dif s t n).length c1 c2 a1 a2 (fn (dif s t n)) (fn (dif s t n)) _ (by omega) (by omega) HI12.out HI2.out).mono ?_
    rw [HSB.out]
    rintro e w3 ⟨rfl, hb3⟩
    have hbl := HB2.out.trans (hb3.mono HB2.out.size)
    clear hb3 HI12 HI2 HB2
    go_wp2_with fail
    refine (sane_any _).mono ?_
    rintro e wz ⟨rfl, hb⟩
    have DZ := hbl.trans (hb.mono hbl.size)
    clear hb hbl
    go_wp2_with fail
    go_returns
    exact ⟨rfl, DZ⟩
  · have HE := Lib.hid he
    clear he
    go_enter Try.func12, Try.ntmps12
    go_wp2_with fail
    refine (pChanged_no n m cap dap ao bo _ h80' h40' HE.out).mono ?_
    rintro e w' ⟨rfl, rfl⟩
    go_wp2_with fail
    refine (rChanged_no n m cap dap ao bo _ h80' h40' HE.out).mono ?_
    rintro e w' ⟨rfl, rfl⟩
    have HSB : Hid (Prm.sameB 0 0 (fun _ => 0) (fun _ => 0) = true) := Lib.hid (Prm.sameB_yes fun _ _ => rfl)
    go_wp2_with fail
    refine (same_any 0 0 0 0 none none (fun _ => 0) (fun _ => 0) _ (by omega) (by omega) (fun h => absurd h (by omega)) (fun h => absurd h (by omega))).mono ?_
    rw [HSB.out]
    rintro e w3 ⟨rfl, hbl⟩
    go_wp2_with fail
    refine (sane_any _).mono ?_
    rintro e wz ⟨rfl, hb⟩
    have DZ := hbl.trans (hb.mono hbl.size)
    clear hb hbl
    go_wp2_with fail
    go_returns
    exact ⟨rfl, DZ⟩
end Go.Proofs.Ytggggcinofhbjaa
