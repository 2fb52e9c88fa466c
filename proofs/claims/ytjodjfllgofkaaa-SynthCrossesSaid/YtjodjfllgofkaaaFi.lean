import Derived.Test.YtjodjfllgofkaaaMv
import Derived.Test.YtjodjfllgofkaaaAw
import Derived.OwnWalk
import Derived.Laws.OwnMore
namespace Go.Proofs.Ytjodjfllgofkaaa
open Go.RowKit Amp
attribute [local go_sem] ix0 ix1 ix2 ix3 jx0 jx1 jx2 jx3
attribute [local go_sem high] run_eqNum run_neNum
/-- The five cells of a number. -/
def cellsOf (z : Nm) : List Value := [.int .i64 z.v.a, .int .i64 z.v.b, .int .i64 z.v.c, .int .i64 z.v.d, .int .i64 z.k]
def rowsOf (F : Nat → Nm) : Nat → List Value
  | 0 => []
  | k + 1 => rowsOf F k ++ cellsOf (F k)
theorem rowsOf_len (F : Nat → Nm) (k : Nat) : (rowsOf F k).length = k * 5 := by
  induction k with
  | zero => rfl
  | succ k ih => rw [rowsOf, List.length_append, ih]; show k * 5 + 5 = _; omega
theorem rowsOf_get (F : Nat → Nm) {k i t : Nat} (hi : i < k) (ht : t < 5) : (rowsOf F k)[i * 5 + t]? = (cellsOf (F i))[t]? := by
  induction k with
  | zero => omega
  | succ k ih =>
    rw [rowsOf]
    by_cases e : i = k
    · subst e
      rw [List.getElem?_append_right (by rw [rowsOf_len]; omega), rowsOf_len]
      congr 1
      omega
    · rw [List.getElem?_append_left (by rw [rowsOf_len]; omega)]
      exact ih (by omega)
theorem own_below {w w1 : World} {base : Nat} {e : TypeId} {size n : Nat} {v : Value} {xs : List Value} (h : w.ownsRow base e size v n xs) (hb : Below w.heap.size w w1) : w1.ownsRow base e size v n xs := by
  refine ⟨h.1, ?_⟩
  rcases h.2 with hn | ⟨g, cap, cur, rfl, h1, hgg, rest⟩
  · exact .inl hn
  · refine .inr ⟨g, cap, cur, rfl, h1, ?_, rest⟩
    rw [hb.block g (Array.getElem?_eq_some_iff.1 hgg).1]
    exact hgg
theorem below_base {B : Nat} {w w0 w1 : World} (h : Below (B + 1) w0 w1) (h0 : Below B w w0) : Below B w w1 := h0.trans (h.mono (Nat.le_succ B))
theorem add0 (g j : Nat) : (⟨g, 0, none⟩ : Addr).add j = ⟨g, j, none⟩ := by unfold Addr.add; split <;> simp_all
theorem Nums.of_own {w : World} {base : Nat} {e : TypeId} {v : Value} {n : Nat} {F : Nat → Nm} (h : w.ownsRow base e 5 v n (rowsOf F n)) : ∃ ao cap, v = .slice ao n cap ∧ Nums w ao n F := by
  rcases h.2 with ⟨rfl, rfl⟩ | ⟨g, cap, cur, rfl, _⟩
  · exact ⟨none, 0, rfl, fun h => absurd h (by omega)⟩
  · refine ⟨_, cap, rfl, fun _ => ⟨g, 0, rfl, fun i hi => ?_⟩⟩
    have hc := fun t (ht : t < 5) u (hu : (cellsOf (F i))[t]? = some u) => h.cells (g := g) rfl (i * 5 + t) u ((rowsOf_get F hi ht).trans hu)
    simp only [add0] at hc
    unfold NumAt
    simp only [Nat.zero_add]
    exact ⟨hc 0 (by omega) _ rfl, hc 1 (by omega) _ rfl, hc 2 (by omega) _ rfl, hc 3 (by omega) _ rfl, hc 4 (by omega) _ rfl⟩
theorem Nums.set {w : World} {ao : Option Addr} {n : Nat} {f : Nat → Nm} (h : Nums w ao n f) {B m k : Nat} (hf : ∀ a, ao = some a → B ≤ a.block) (hm : m < B) (v : Value) : Nums (w.setCell ⟨m, k, none⟩ v) ao n f := by
  intro hn
  obtain ⟨b, o, e, hc⟩ := h hn
  have hb := hf _ e
  simp only at hb
  have hne : ¬ m = b := by omega
  refine ⟨b, o, e, fun i hi => ?_⟩
  obtain ⟨h0, h1, h2, h3, h4⟩ := hc i hi
  refine ⟨?_, ?_, ?_, ?_, ?_⟩ <;> go_cell
theorem infoNum : (Try.prog.info? 63).map (fun i => (i.zero, i.size, i.bytes)) = some (some (.agg #[.int .i64 0, .int .i64 0, .int .i64 0, .int .i64 0, .int .i64 0]), 5, 40) := by kernel_rfl
theorem cellsOf_one (z : Nm) : ∀ u ∈ cellsOf z, u.oneCell' = true := by simp [cellsOf, Value.oneCell']

set_option maxRecDepth 100000 in
set_option maxHeartbeats 4000000 in
theorem filled_identity (n : Nat) (hn : n ≤ 6) (b : Value) (z : Nat → Nat → Nm) (w : World)
    (H : ∀ (i j : Nat) (w1 : World), i < n → j < n → Below w.heap.size w w1 → Calls Try.prog 91 #[b, .int .i64 i, .int .i64 j] w1 fun e w' => e = Ret5 (z i j, 0) ∧ Below w1.heap.size w1 w') :
    Calls Try.prog 90 #[.int .i64 n, .func (Fn.func 91) #[b] #[]] w
      fun e w' => ∃ ao cap, e = .returned (.tuple #[.agg #[.int .i64 n, .slice ao (n * n) cap], .int .i64 0]) ∧ Nums w' ao (n * n) (fun k => z (k / n) (k % n)) ∧ (∀ a, ao = some a → w.heap.size ≤ a.block) ∧ Below w.heap.size w w' := by
  have HH := Lib.hid H
  clear H
  obtain ⟨FF, hFF⟩ : ∃ FF, Hid (FF = fun k => z (k / n) (k % n)) := ⟨_, rfl⟩
  obtain ⟨i0, hi, hz0, hz1, hz2⟩ := info_parts infoNum
  have HI := Lib.hid (And.intro hi (And.intro hz0 (And.intro hz1 hz2)))
  clear hi hz0 hz1 hz2
  have hn' : (n : Int) ≤ 6 := by omega
  go_enter Try.func90, Try.ntmps90
  go_wp2_with fail
  go_loopw [6, 7, 8, 9, 10, 12, 16] (fun lv _ _ _ _ iv _ wr => ∃ (i : Nat), iv = .int .i64 i ∧ i ≤ n ∧ wr.ownsRow (w.heap.size + 1) 63 5 lv (i * n) (rowsOf FF (i * n)) ∧ Below (w.heap.size + 1) (w.alloc (.cells #[.int .i64 0, .slice none 0 0] 26)) wr) (fun _ _ _ _ _ iv _ _ => n - (intOf iv).toNat)
  case atStart => exact ⟨0, rfl, by omega, by rw [Nat.zero_mul]; exact World.ownsRow_nil _ _ _ _, Below.refl _ _⟩
  case round =>
    obtain ⟨i, rfl, hi, hown, hbel⟩ := hrel
    have hsz := hbel.size
    have hz0 : w.heap.size < wr.heap.size := by simp at hsz; omega
    by_cases hlt : i < n
    · have hlt' : (i : Int) < (n : Int) := by omega
      have HOW := Lib.hid hown
      clear hown
      obtain ⟨wo, rfl⟩ : ∃ wo : World, wo = wr := ⟨_, rfl⟩
      go_wp2_with fail
      go_loopw [6, 8, 9, 10, 16] (fun lv _ _ _ jv wr => ∃ (j : Nat), jv = .int .i64 j ∧ j ≤ n ∧ wr.ownsRow (w.heap.size + 1) 63 5 lv (i * n + j) (rowsOf FF (i * n + j)) ∧ Below (w.heap.size + 1) (w.alloc (.cells #[.int .i64 0, .slice none 0 0] 26)) wr ∧ w.heap.size < wr.heap.size) (fun _ _ _ _ jv _ => n - (intOf jv).toNat)
      case atStart => exact ⟨0, rfl, by omega, HOW.out, hbel, hz0⟩
      case round =>
        obtain ⟨j, rfl, hj, hown, hbel1, hz1⟩ := hrel
        by_cases hjt : j < n
        · have hjt' : (j : Int) < (n : Int) := by omega
          have hsm : i * n + j < 36 := by
            have h1 : i * n ≤ 5 * n := Nat.mul_le_mul_right n (by omega)
            omega
          have hff : FF (i * n + j) = z i j := by
            rw [hFF.out]
            show z ((i * n + j) / n) ((i * n + j) % n) = z i j
            rw [Nat.mul_comm i n, Nat.mul_add_div (by omega), Nat.div_eq_of_lt hjt, Nat.add_zero, Nat.mul_add_mod, Nat.mod_eq_of_lt hjt]
          obtain ⟨x0, x1, x2, x3, x4, xe, HM⟩ := res5 (z i j, 0)
          have HZ : Hid (z i j = ⟨⟨x0, x1, x2, x3⟩, x4⟩) := Lib.hid (congrArg Prod.fst HM.out)
          have HFF := Lib.hid hff
          have HSM := Lib.hid hsm
          have HOW1 := Lib.hid hown
          have HB1 := Lib.hid hbel1
          have HH1 := Lib.hid (HH.out i j wr hlt hjt (below_base HB1.out ((Below.refl _ _).alloc (Nat.le_refl _) _)))
          clear hown hbel1 hff hsm HM
          go_wp2_with fail
          refine HH1.out.mono ?_
          rintro e w1 ⟨rfl, hb⟩
          rw [HZ.out]
          unfold Ret5
          (try simp only)
          have HB2 := Lib.hid hb
          have hz2 : w.heap.size < w1.heap.size := by have := hb.size; omega
          clear hb
          go_wp2_with (at_builtin; refine wpList_append_own _ rfl (.tmp 30) (.tmp 32) 23 rfl (w.heap.size + 1) 63 i0 _ 5 40 Try.underlying23 HI.out.1 HI.out.2.1 HI.out.2.2.1 HI.out.2.2.2 rfl (by decide) _ (i * n + j) (rowsOf FF (i * n + j)) rfl (((own_below HOW1.out HB2.out).alloc _).alloc _) ⟨w1.heap.size + 1, 0, none⟩ 1 1 (cellsOf ⟨⟨x0, x1, x2, x3⟩, x4⟩) rfl rfl ?c1 ?c2 ?c3 ?c4 ?c5 ?_)
          case c1 =>
            intro t u hu
            rw [add0]
            have ht : t < 5 := (List.getElem?_eq_some_iff.1 hu).1
            rcases (show t = 0 ∨ t = 1 ∨ t = 2 ∨ t = 3 ∨ t = 4 by omega) with rfl | rfl | rfl | rfl | rfl <;> (simp only [cellsOf, List.getElem?_cons_zero, List.getElem?_cons_succ, Option.some.injEq] at hu; subst hu; go_cell)
          case c2 => exact cellsOf_one _
          case c3 => have := HSM.out; unfold maxLen; omega
          case c4 => have := HSM.out; omega
          case c5 => simp; omega
          intro v' w3 hown' hgrow _
          have hrow : rowsOf FF (i * n + j) ++ cellsOf ⟨⟨x0, x1, x2, x3⟩, x4⟩ = rowsOf FF (i * n + (j + 1)) := by
            rw [← Nat.add_assoc, rowsOf, HFF.out, HZ.out]
          rw [hrow, Nat.add_assoc] at hown'
          have hlt2 := HOW1.out.lt
          have HB3 : Below (w.heap.size + 1) (w.alloc (.cells #[.int .i64 0, .slice none 0 0] 26)) w3 := by
            have h2 : Below (w.heap.size + 1) wr w1 := HB2.out.mono (by omega)
            refine Below.grown (((HB1.out.trans h2).alloc (by first | omega | (simp; omega)) _).alloc (by first | omega | (simp; omega)) _) hgrow (by first | omega | (simp; omega)) (fun k hk => (hlt2 k hk).1)
          have hz3 : w.heap.size < w3.heap.size := by have := HB3.size; simp at this; omega
          have HO3 := Lib.hid hown'
          have HB4 := Lib.hid HB3
          clear hown' hgrow HB3 hrow hlt2
          go_wp2_with fail
          go_roundw
          case rel => exact ⟨j + 1, by go_num, by omega, HO3.out, HB4.out, hz3⟩
          case measure => simp [intOf]; omega
        · obtain rfl : j = n := by omega
          have HOW1 := Lib.hid hown
          have HB1 := Lib.hid hbel1
          clear hown hbel1
          go_wp2_with fail
          go_roundw
          case rel => exact ⟨i + 1, by go_num, by omega, by rw [Nat.succ_mul]; exact HOW1.out, HB1.out⟩
          case measure => simp [intOf]; omega
    · obtain rfl : i = n := by omega
      obtain ⟨ao, cap, rfl, _⟩ := Nums.of_own hown
      have HOW := Lib.hid hown
      have e0 := hbel.cell (p := ⟨w.heap.size, 0, none⟩) (by simp)
      have e1 := hbel.cell (p := ⟨w.heap.size, 1, none⟩) (by simp)
      have g0 := hbel.frozen (p := ⟨w.heap.size, 0, none⟩) (by simp)
      have g1 := hbel.frozen (p := ⟨w.heap.size, 1, none⟩) (by simp)
      have c0 : wr.cell? ⟨w.heap.size, 0, none⟩ = some (.int .i64 0) := e0.trans (by go_cell)
      have c1 : wr.cell? ⟨w.heap.size, 1, none⟩ = some (.slice none 0 0) := e1.trans (by go_cell)
      have f0 : wr.frozen? ⟨w.heap.size, 0, none⟩ = false := g0.trans (by go_cell)
      have f1 : wr.frozen? ⟨w.heap.size, 1, none⟩ = false := g1.trans (by go_cell)
      have HB := Lib.hid (below_base hbel ((Below.refl _ _).alloc (Nat.le_refl _) _))
      clear hown hbel e0 e1 g0 g1
      go_wp2_with fail
      refine bodyPost_ret (v := .tuple #[.agg #[.int .i64 i, .slice ao (i * i) cap], .int .i64 0]) (by simp [results, Try.results90, go_sem, *]) rfl ⟨ao, cap, rfl, ?_, ?_, ?_⟩
      · obtain ⟨ao', cap', he, hnu⟩ := Nums.of_own (ownsRow_setCell_below (ownsRow_setCell_below HOW.out (a := ⟨w.heap.size, 0, none⟩) (by simp) (.int .i64 i)) (a := ⟨w.heap.size, 1, none⟩) (by simp) (.slice ao (i * i) cap))
        simp only [Value.slice.injEq] at he
        obtain ⟨rfl, _, _⟩ := he
        rw [hFF.out] at hnu
        exact hnu
      · intro a ha
        subst ha
        have := (HOW.out.lt a.block rfl).1
        omega
      · exact (HB.out.setCell (by simp) _).setCell (by simp) _

end Go.Proofs.Ytjodjfllgofkaaa
