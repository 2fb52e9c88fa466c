import Derived.Test.YtmildncbkndcoaaLst
import Derived.Test.YtmildncbkndcoaaRow
import Derived.Deep.Slices
namespace Go.Proofs.Ytmildncbkndcoaa
open Go.RowKit Amp Go.ChangeShapes
attribute [local go_sem] ix0 ix1 ix2 ix3 jx0 jx1 jx2 jx3
attribute [local go_sem high] run_eqNum run_neNum

set_option maxHeartbeats 2000000 in
theorem AmpLists_nil (ao : Option Addr) (cap : Nat) (w : World) :
    Calls Try.prog 6 #[.slice ao 0 cap] w fun e w' => e = .returned (.bool true) ∧ Below w.heap.size w w' := by
  obtain ⟨x0, x1, x2, x3, x4, xe, HM⟩ := res5 (N0, 0)
  go_enter Try.func6, Try.ntmps6
  go_wp2_with fail
  refine (Sum_nil _ _ _).mono ?_
  rintro e w1 ⟨rfl, hb⟩
  rw [HM.out]
  unfold Ret5
  simp only
  have D1 : Below w.heap.size w w1 := hb
  clear hb
  have s1 : w.heap.size ≤ w1.heap.size := D1.size
  go_wp2_with fail
  refine (rSum_nil _ _ _).mono ?_
  rintro e w2 ⟨rfl, hb⟩
  rw [HM.out]
  unfold Ret5
  simp only
  obtain ⟨⟨q0, q1, q2, q3, q4⟩, r0, r1, r2, r3, r4⟩ : Has5 w2 w1.heap.size x0 x1 x2 x3 x4 := Has5.keep (by refine ⟨⟨?_, ?_, ?_, ?_, ?_⟩, ?_, ?_, ?_, ?_, ?_⟩ <;> go_cell) hb (by first | omega | (simp; done) | (simp; omega))
  have D2 : Below w.heap.size w w2 := Below.trans (by go_grown) (hb.mono (by first | omega | (simp; done) | (simp; omega)))
  have s2 : w1.heap.size < w2.heap.size := by have := hb.size; simp at this; omega
  clear hb D1
  go_wp2_with fail
  refine (awake_any _).mono ?_
  rintro e w3 ⟨rfl, hb⟩
  have D3 : Below w.heap.size w w3 := Below.trans (by go_grown) (hb.mono (by first | omega | (simp; done) | (simp; omega)))
  clear hb
  go_wp2_with fail
  go_returns
  exact ⟨rfl, D3⟩

set_option maxHeartbeats 2000000 in
theorem AmpLists_pos (b o n cap : Nat) (f : Nat → Nm) (w : World) (hn : n ≤ 9223372036854775807) (hc : ∀ i, i < n → NumAt w b (o + i * 5) (f i)) :
    Calls Try.prog 6 #[.slice (some ⟨b, o, none⟩) n cap] w fun e w' => e = .returned (.bool true) ∧ Below w.heap.size w w' := by
  have HC := Lib.hid hc
  clear hc
  obtain ⟨x0, x1, x2, x3, x4, xe, HM⟩ := res5 (sumS f n)
  go_enter Try.func6, Try.ntmps6
  go_wp2_with fail
  refine (Sum_any b o n cap f _ hn HC.out).mono ?_
  rintro e w1 ⟨rfl, hb⟩
  rw [HM.out]
  unfold Ret5
  simp only
  have D1 : Below w.heap.size w w1 := hb
  clear hb
  have s1 : w.heap.size ≤ w1.heap.size := D1.size
  go_wp2_with fail
  refine (rSum_any b o n cap f _ hn (by intro i hi; exact (HC.out i hi).keep (by go_grown) (World.block_lt_of_cell? w _ (HC.out i hi).1))).mono ?_
  rintro e w2 ⟨rfl, hb⟩
  rw [HM.out]
  unfold Ret5
  simp only
  obtain ⟨⟨q0, q1, q2, q3, q4⟩, r0, r1, r2, r3, r4⟩ : Has5 w2 w1.heap.size x0 x1 x2 x3 x4 := Has5.keep (by refine ⟨⟨?_, ?_, ?_, ?_, ?_⟩, ?_, ?_, ?_, ?_, ?_⟩ <;> go_cell) hb (by first | omega | (simp; done) | (simp; omega))
  have D2 : Below w.heap.size w w2 := Below.trans (by go_grown) (hb.mono (by first | omega | (simp; done) | (simp; omega)))
  have s2 : w1.heap.size < w2.heap.size := by have := hb.size; simp at this; omega
  clear hb D1
  go_wp2_with fail
  refine (awake_any _).mono ?_
  rintro e w3 ⟨rfl, hb⟩
  have D3 : Below w.heap.size w w3 := Below.trans (by go_grown) (hb.mono (by first | omega | (simp; done) | (simp; omega)))
  clear hb
  go_wp2_with fail
  go_returns
  exact ⟨rfl, D3⟩

theorem open_nums {H : Type} {enc : TypeId × Value → H} {w : World} {r : Reach} {base b0 : Nat} {spare : Nat → Bool} {held : Bool} {v : Value} {d : DataW H} {p : List MemPlace}
    (hv : Value.okWide Try.prog w r b0 36 v) (h : DataW.Trod enc Try.prog w base spare held 36 v d p) :
    (∃ ao cap, v = .slice ao 0 cap) ∨ ∃ (b o n cap : Nat) (f : Nat → Nm), v = .slice (some ⟨b, o, none⟩) n cap ∧ n ≤ 9223372036854775807 ∧ ∀ i, i < n → NumAt w b (o + i * 5) (f i) := by
  obtain ⟨ao, len, cap, rfl⟩ := Go.WideShapes.okWide_slice Try.underlying36 hv
  obtain ⟨fuel, hf⟩ := h
  have c5 : Try.prog.cellsOf 24 = 5 := by kernel_rfl
  rcases Go.Deep.open_slice Try.underlying36 (show DataW.trod enc Try.prog w base spare held fuel 36 [.slice ao len cap] = some (d, p) from hf) with ⟨h0, _⟩ | ⟨a, len', cap', m, k, D, Pl, hcs, _, hl, hm, hmm, _, hx⟩
  · left
    simp only [List.cons.injEq, Value.slice.injEq, and_true] at h0
    exact ⟨ao, cap, by rw [h0.2.1]⟩
  · simp only [List.cons.injEq, Value.slice.injEq, and_true] at hcs
    obtain ⟨rfl, rfl, rfl⟩ := hcs
    by_cases h0 : len = 0
    · subst h0; exact Or.inl ⟨_, _, rfl⟩
    right
    have hlm : len ≤ m := by rw [hmm]; split <;> omega
    obtain ⟨b, o, spot⟩ := a
    have cells : ∀ i, i < len → ∃ z : Nm, w.cell? ((⟨b, o, spot⟩ : Addr).add (i * 5)) = some (.int .i64 z.v.a) ∧ w.cell? (((⟨b, o, spot⟩ : Addr).add (i * 5)).add 1) = some (.int .i64 z.v.b) ∧ w.cell? (((⟨b, o, spot⟩ : Addr).add (i * 5)).add 2) = some (.int .i64 z.v.c) ∧ w.cell? (((⟨b, o, spot⟩ : Addr).add (i * 5)).add 3) = some (.int .i64 z.v.d) ∧ w.cell? (((⟨b, o, spot⟩ : Addr).add (i * 5)).add 4) = some (.int .i64 z.k) := by
      intro i hi
      obtain ⟨cs', h1, h2⟩ := hx i (by omega)
      rw [c5] at h1
      obtain ⟨_, hlen, hcell⟩ := World.cells?_some h1
      match cs', hlen with
      | [v0, v1, v2, v3, v4], _ =>
        obtain ⟨a, b', c, d', k', rfl, rfl, rfl, rfl, rfl, _⟩ := trod5 h2
        have e0 := hcell 0 (by omega)
        rw [show ∀ x : Addr, x.add 0 = x from fun x => by simp [Addr.add]] at e0
        exact ⟨⟨⟨a, b', c, d'⟩, k'⟩, e0, hcell 1 (by omega), hcell 2 (by omega), hcell 3 (by omega), hcell 4 (by omega)⟩
    have hspot : spot = none := by
      obtain ⟨z, hz, _⟩ := cells 0 (by omega)
      simpa [Addr.add] using World.cell?_spot hz
    subst hspot
    haveI : Inhabited Nm := ⟨N0⟩
    obtain ⟨f, hf⟩ := Go.Deep.choose_lt cells
    refine ⟨b, o, len, cap, f, rfl, by unfold maxLen at hm; omega, ?_⟩
    intro i hi
    have := hf i hi
    simp only [Addr.add_lit] at this
    exact this
end Go.Proofs.Ytmildncbkndcoaa
