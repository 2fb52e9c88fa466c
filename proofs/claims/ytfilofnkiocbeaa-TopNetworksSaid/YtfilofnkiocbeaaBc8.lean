import Derived.Test.YtfilofnkiocbeaaBb8
import Derived.Maps.AppendAt
import Derived.Laws.AppendOwnNone
namespace Go.Proofs.Ytfilofnkiocbeaa
open Go.RowKit Ben
theorem info_parts {o : Option TypeInfo} {z : Value} {s b : Nat} (h : o.map (fun i => (i.zero, i.size, i.bytes)) = some (some z, s, b)) : ∃ i : TypeInfo, o = some i ∧ i.zero = some z ∧ i.size = s ∧ i.bytes = b := by
  cases o with
  | none => cases h
  | some i =>
    have := Option.some.inj h
    exact ⟨i, rfl, (Prod.mk.inj this).1, (Prod.mk.inj (Prod.mk.inj this).2).1, (Prod.mk.inj (Prod.mk.inj this).2).2⟩
/-- A slice of truth values, nil and empty ones let in. -/
def Bools (w : World) (ao : Option Addr) (n : Nat) (s : Nat → Bool) : Prop := 0 < n → ∃ b o, ao = some ⟨b, o, none⟩ ∧ ∀ i, i < n → w.cell? ⟨b, o + i, none⟩ = some (.bool (s i))
theorem Bools.keep {w w1 : World} {ao : Option Addr} {n : Nat} {s : Nat → Bool} (h : Bools w ao n s) (hb : Below w.heap.size w w1) : Bools w1 ao n s := by
  intro hn
  obtain ⟨b, o, e, hc⟩ := h hn
  exact ⟨b, o, e, fun i hi => ((bcl hb).1 _ _ (World.block_lt_of_cell? w _ (hc i hi))).trans (hc i hi)⟩
theorem Bools.congr {w : World} {ao : Option Addr} {n : Nat} {s t : Nat → Bool} (h : Bools w ao n s) (e : ∀ i, i < n → s i = t i) : Bools w ao n t := by
  intro hn
  obtain ⟨b, o, e', hc⟩ := h hn
  exact ⟨b, o, e', fun i hi => by rw [← e i hi]; exact hc i hi⟩
/-- Block g holds at o the units of L switches, of which the first is number b. -/
def Unw (w : World) (g o L b : Nat) (s : Nat → Bool) : Prop := ∀ j, j < L → w.cell? ⟨g, o + j * 2, none⟩ = some (.int .i64 ((b + j : Nat) : Int)) ∧ w.cell? ⟨g, o + j * 2 + 1, none⟩ = some (.bool (s (b + j)))
theorem Unw.keep {w w1 : World} {g o L b : Nat} {s : Nat → Bool} (h : Unw w g o L b s) (hb : Below w.heap.size w w1) : Unw w1 g o L b s := by
  intro i hi
  obtain ⟨a, c⟩ := h i hi
  have hB : g < w.heap.size := World.block_lt_of_cell? w _ a
  exact ⟨((bcl hb).1 _ _ hB).trans a, ((bcl hb).1 _ _ hB).trans c⟩
/-- A part of the units. -/
theorem Unw.part {w : World} {g o L b : Nat} {s : Nat → Bool} (h : Unw w g o L b s) (k M : Nat) (hk : k + M ≤ L) : Unw w g (o + k * 2) M (b + k) s := by
  intro j hj
  have := h (k + j) (by omega)
  rw [show o + k * 2 + j * 2 = o + (k + j) * 2 by omega, show b + k + j = b + (k + j) by omega]
  exact this
def cellsU (s : Nat → Bool) : Nat → List Value
  | 0 => []
  | k + 1 => cellsU s k ++ [.int .i64 (k : Nat), .bool (s k)]
theorem cellsU_len (s : Nat → Bool) : ∀ k, (cellsU s k).length = k * 2
  | 0 => rfl
  | k + 1 => by rw [cellsU, List.length_append, cellsU_len s k]; simp only [List.length_cons, List.length_nil]; omega
theorem cellsU_get (s : Nat → Bool) : ∀ k i, i < k → (cellsU s k)[i * 2]? = some (.int .i64 (i : Nat)) ∧ (cellsU s k)[i * 2 + 1]? = some (.bool (s i))
  | 0, i, h => by omega
  | k + 1, i, h => by
    have hl := cellsU_len s k
    by_cases e : i = k
    · subst e
      rw [cellsU, List.getElem?_append_right (by omega), List.getElem?_append_right (by omega), hl]
      simp
    · have := cellsU_get s k i (by omega)
      rw [cellsU, List.getElem?_append_left (by omega), List.getElem?_append_left (by omega)]
      exact this
theorem infoUnit : (Try.prog.info? 92).map (fun i => (i.zero, i.size, i.bytes)) = some (some (.agg #[.int .i64 0, .bool false]), 2, 16) := by kernel_rfl
/-- A slice of units as a result. -/
def UnitsRet (B : Nat) (w : World) (e : Ending) (n : Nat) (s : Nat → Bool) : Prop := ∃ g cap, e = .returned (.slice (some ⟨g, 0, none⟩) n cap) ∧ Unw w g 0 n 0 s ∧ B ≤ g ∧ g < w.heap.size ∧ n ≤ cap ∧ cap ≤ 9223372036854775807
set_option maxRecDepth 100000 in
set_option maxHeartbeats 4000000 in
theorem numbered_any (n cap : Nat) (ao : Option Addr) (s : Nat → Bool) (w : World) (h1 : 1 ≤ n) (hn : n ≤ 80) (hc : Bools w ao n s) :
    Calls Try.prog 67 #[.slice ao n cap] w fun e w' => UnitsRet w.heap.size w' e n s ∧ Below w.heap.size w w' := by
  obtain ⟨i0, hi, hz0, hz1, hz2⟩ := info_parts infoUnit
  have HI := Lib.hid (And.intro hi (And.intro hz0 (And.intro hz1 hz2)))
  have HC := Lib.hid hc
  clear hi hz0 hz1 hz2 hc
  go_enter Try.func67, Try.ntmps67
  go_wp2_with fail
  go_loopw [3, 8] (fun V iv wr => ∃ (z : Int) (k : Nat), iv = .int .i64 z ∧ z = k ∧ k ≤ n ∧ Hid (wr.ownsRow w.heap.size 92 2 V k (cellsU s k)) ∧ Hid (Below w.heap.size w wr)) (fun _ iv _ => n - (intOf iv).toNat)
  case atStart => exact ⟨0, 0, rfl, by omega, by omega, Lib.hid (World.ownsRow_nil _ _ _ _), Lib.hid (Below.refl _ _)⟩
  case round =>
    obtain ⟨z, k, rfl, hz, hk, HO, HB⟩ := hrel
    by_cases hlt : k < n
    · have hlt' : z < (n : Int) := by omega
      subst hz
      have k0 : (0 : Int) ≤ (k : Int) := by omega
      have wz : wrap64 ((k : Int) + 1) = (k : Int) + 1 := by simp only [wrap64]; omega
      obtain ⟨b, o, rfl, hcell⟩ := (HC.out.keep HB.out) (by omega)
      have g0 := hcell k hlt
      have hbz := World.block_lt_of_cell? _ _ g0
      have hbl := HB.out
      have hblz := hbl.size
      clear hcell
      obtain ⟨t, ht⟩ : ∃ t, s k = t := ⟨_, rfl⟩
      have HT := Lib.hid ht
      rw [ht] at g0
      clear ht HB
      go_wp2_with (at_builtin; refine wpList_append_own _ rfl (.tmp 13) (.tmp 17) 69 rfl w.heap.size 92 i0 _ 2 16 Try.underlying69 HI.out.1 HI.out.2.1 HI.out.2.2.1 HI.out.2.2.2 rfl (by decide) _ k (cellsU s k) rfl (HO.out.alloc _) ⟨wr.heap.size, 0, none⟩ 1 1 [.int .i64 k, .bool t] rfl rfl ?c1 ?c2 ?c3 ?c4 ?c5 ?_)
      try (case c1 => exact fun j u hu => World.news_of_block (cs := #[.int .i64 k, .bool t]) (heap_new wr _) j u hu)
      case c2 => first | exact ⟨rfl, rfl⟩ | (intro u hu; simp only [List.mem_cons, List.not_mem_nil, or_false] at hu; rcases hu with rfl | rfl <;> rfl)
      case c3 => unfold maxLen; omega
      case c4 => omega
      try (case c5 => first | omega | (simp; done) | (simp; omega))
      intro v' w5 hown' hgrow _
      have hltk := HO.out.lt
      have HO5 : Hid (w5.ownsRow w.heap.size 92 2 v' (k + 1) (cellsU s (k + 1))) := Lib.hid (by rw [cellsU, HT.out]; exact hown')
      have HB5 : Hid (Below w.heap.size w w5) := Lib.hid (Below.grown (hbl.alloc hblz _) hgrow (by first | omega | (simp; omega)) (fun p hp => (hltk p hp).1))
      clear hown' hgrow hltk HO hbl hblz
      go_wp2_with fail
      go_roundw
      case rel => exact ⟨(k : Int) + 1, k + 1, by first | rfl | rw [wz], by clear wz; omega, by omega, HO5, HB5⟩
      case measure => clear wz; first | (simp [intOf]; done) | (simp [intOf]; omega)
    · obtain rfl : k = n := by omega
      have hzn : ¬ z < (k : Int) := by omega
      subst hz
      obtain ⟨g, cap', rfl, hgB, hgs, hgc, hgm⟩ := own_fm HO.out (by omega)
      have HU : Hid (Unw wr g 0 k 0 s) := Lib.hid (fun j hj => by
        have h1 := HO.out.cellAt (j * 2) (by omega)
        have h2 := HO.out.cellAt (j * 2 + 1) (by omega)
        obtain ⟨e1, e2⟩ := cellsU_get s k j hj
        rw [Nat.zero_add, Nat.zero_add]
        exact ⟨h1.trans e1, h2.trans e2⟩)
      have HG := Lib.hid (And.intro hgB (And.intro hgs (And.intro hgc hgm)))
      clear HO hgB hgs hgc hgm
      have hbl := HB.out
      clear HB
      go_wp2_with fail
      go_returns
      exact ⟨⟨g, cap', rfl, HU.out, HG.out.1, HG.out.2.1, HG.out.2.2.1, HG.out.2.2.2⟩, hbl⟩
set_option maxRecDepth 100000 in
theorem passed_any (x : Int) (t : Bool) (i : Nat) (w : World) (hi : i < 2) : Calls Try.prog 79 #[.agg #[.int .i64 x, .bool t], .int .i64 i] w fun e w' => e = .returned (.int .i64 (fl t i : Nat)) ∧ w' = w.alloc (.cells #[.int .i64 x, .bool t] 92) := by
  have h : i = 0 ∨ i = 1 := by omega
  cases t <;> rcases h with rfl | rfl
  all_goals
    go_enter Try.func79, Try.ntmps79
    go_wp2_with fail
    go_returns
    exact ⟨rfl, rfl⟩
end Go.Proofs.Ytfilofnkiocbeaa
