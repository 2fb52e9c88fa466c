import Derived.Test.YtpjfpkhcadombaaEx
import Derived.Test.YtpjfpkhcadombaaIv
namespace Go.Proofs.Ytpjfpkhcadombaa
open Go.RowKit Go.Shelf Prm
attribute [local go_sem] Oper.semAt_some

set_option maxRecDepth 100000 in
set_option maxHeartbeats 1000000 in
theorem inversions_no (n cap : Nat) (ao : Option Addr) (f : Nat → Int) (w : World) (hn : n ≤ 9223372036854775807) (hc : Ints w ao n f) (hp : permB n f = false) :
    Calls Try.prog 7 #[.slice ao n cap] w fun e w' => e = .returned (.tuple #[.int .i64 0, .int .i64 40]) ∧ Below w.heap.size w w' := by
  have HC := Lib.hid hc
  have HP := Lib.hid hp
  clear hc hp
  go_enter Try.func7, Try.ntmps7
  go_wp2_with fail
  refine (validPerm_any n cap ao f _ hn HC.out).mono ?_
  rintro e w1 ⟨rfl, hb⟩
  rw [HP.out]
  have D1 := Lib.hid hb
  clear hb
  go_wp2_with fail
  go_returns
  exact ⟨rfl, D1.out⟩

set_option maxRecDepth 100000 in
set_option maxHeartbeats 4000000 in
theorem inversions_ok (n cap b o : Nat) (f : Nat → Int) (w : World) (hc : ∀ i, i < n → w.cell? ⟨b, o + i, none⟩ = some (.int .i64 (f i))) (hp : permB n f = true) :
    Calls Try.prog 7 #[.slice (some ⟨b, o, none⟩) n cap] w fun e w' => e = .returned (.tuple #[.int .i64 (inv n f), .int .i64 0]) ∧ Below w.heap.size w w' := by
  obtain ⟨h1, h64, _⟩ := permB_yes hp
  have HC := Lib.hid hc
  have HP := Lib.hid hp
  have hbs : b < w.heap.size := World.block_lt_of_cell? w _ (hc 0 (by omega))
  clear hc hp
  refine (callsIn_wide (n := 8)).1 ?_
  refine callsIn_of_wp_marks Try.func7 rfl trivial ?_ rfl
  simp only [Try.ntmps7, List.size_toArray, List.length_cons, List.length_nil, Nat.reduceAdd, Nat.reduceSub, Array.replicate_succ, Array.replicate_zero, List.push_toArray, List.append_toArray, List.nil_append, List.cons_append]
  gi_wp2_with fail
  refine ⟨trivial, (callsIn_wide.2 (validPerm_any n cap (some ⟨b, o, none⟩) f _ (by omega) (fun _ => ⟨b, o, rfl, HC.out⟩))).mono ?_⟩
  rintro e w1 ⟨rfl, hb⟩
  rw [HP.out]
  have HC1 : Hid (∀ i, i < n → w1.cell? ⟨b, o + i, none⟩ = some (.int .i64 (f i))) := Lib.hid fun i hi => (hb.cell (p := ⟨b, o + i, none⟩) hbs).trans (HC.out i hi)
  have D1 := Lib.hid hb
  have hbs1 : b < w1.heap.size := Nat.lt_of_lt_of_le hbs hb.size
  clear hb
  gi_wp2_with fail
  refine ⟨trivial, (exchanges_in _ (some ⟨b, o, none⟩) n cap _).mono ?_⟩
  rintro e w2 ⟨rfl, rfl⟩
  gi_wp2_with fail
  have hsw : w.heap.size ≤ w1.heap.size := D1.out.size
  have HBW : Hid (Below w.heap.size w ((w1.alloc (.cells #[.int .i64 0] 3)).alloc (.cells #[.slice (some ⟨b, o, none⟩) n cap] 22))) := Lib.hid ((D1.out.alloc hsw _).alloc (by simp; omega) _)
  refine wpIn_iter (S := fun pre => ∃ g, Runs n f pre g ∧ desc g (n - 1) 0 = none) (N := inv n f) (M := n) rfl (by omega) (gf := 28) (lb := #[.pointer (some ⟨w1.heap.size + 1, 0, none⟩)]) rfl trivial (enters_of Try.func28 (by kernel_rfl) rfl)
    (exch_iter _ (w1.heap.size + 1) n cap b o f _ h1 h64 (by go_cell) (fun i hi => (((Below.refl _ w1).alloc (Nat.le_refl _) _).alloc (by simp) _).cell (p := ⟨b, o + i, none⟩) hbs1 |>.trans (HC1.out i hi))) rfl
    (fun _ pre W => (W.cell? ⟨w1.heap.size, 0, none⟩ = some (.int .i64 pre.length) ∧ W.frozen? ⟨w1.heap.size, 0, none⟩ = false) ∧ Below w.heap.size w W)
    ?hb ?hs ?hp ?h0
    (fun x => { tmps := #[.slice (some ⟨b, o, none⟩) n cap, undef, .int .i64 0, .int .i64 0, .pointer (some ⟨w1.heap.size, 0, none⟩), .slice (some ⟨b, o, none⟩) n cap, .bool true, .bool false, .slice (some ⟨b, o, none⟩) n cap, .func (.func 28) #[] #[.pointer (some ⟨w1.heap.size + 1, 0, none⟩)], .int .i64 x, undef, undef, undef], defers := [] }) ?assign ?body ?done
  case hb =>
    rintro ib pre A B ⟨⟨c, d⟩, hB⟩ hb
    have hlt := World.block_lt_of_cell? A _ c
    exact ⟨⟨(hb.cell (p := ⟨w1.heap.size, 0, none⟩) hlt).trans c, (hb.frozen (p := ⟨w1.heap.size, 0, none⟩) hlt).trans d⟩, hB.trans (hb.mono hB.size)⟩
  case hs =>
    rintro ib pre A k v hib ⟨⟨c, d⟩, hB⟩
    simp only [World.size_alloc] at hib
    have hne : ¬ ib = w1.heap.size := by omega
    exact ⟨⟨by go_cell, by go_cell⟩, hB.setCell (p := ⟨ib, k, none⟩) (by show w.heap.size ≤ ib; omega) _⟩
  case hp =>
    rintro ib pre A l x x' hl hA hx ⟨⟨c, d⟩, hB⟩
    simp only [World.size_alloc] at hl
    have hr : ∀ r, some l = some r → ∃ y : Obj, A.heap[r]? = some y ∧ y.isCells = false := fun r e => by cases e; exact ⟨x, hA, hx⟩
    exact ⟨⟨cell_kept c (grownBy_putObj' A l x') hr, (frozen_kept c (grownBy_putObj' A l x') hr).trans d⟩, hB.grown (grownBy_putObj' A l x') (Nat.le_trans hsw (by have := (Array.getElem?_eq_some_iff.1 hA).1; omega)) (fun k e => by cases e; omega)⟩
  case h0 =>
    intro ib
    exact ⟨⟨by go_cell, by go_cell⟩, HBW.out⟩
  case assign =>
    intro l x W K hK
    gi_wp2
    first
      | simpa using hK
      | (simp [Array.zip, Array.zipWith]; exact hK)
  case body =>
    rintro l ib pre x W hib hlt ⟨⟨c, d⟩, hB⟩ hN _
    simp only [World.size_alloc] at hib
    have hbd : (pre.length : Int) + 1 ≤ 4097 := by have := inv_le n f; have := Nat.mul_le_mul h64 h64; omega
    have hne : ¬ w1.heap.size = ib := by omega
    have hlen : (pre ++ [x]).length = pre.length + 1 := by simp
    have HL := Lib.hid hlen
    have HDB := Lib.hid hB
    clear hlen hB
    gi_wp2
    refine ⟨KeepsOthers.setCell _ _ _, ⟨⟨?_, ?_⟩, HDB.out.setCell (p := ⟨w1.heap.size, 0, none⟩) hsw _⟩, Below.heap_setCell W _ _ _ (fun e => hne e.symm)⟩
    · rw [HL.out]; go_cell
    · go_cell
  case done =>
    rintro D ib pre W hD ⟨g, hR, hdn⟩ ⟨⟨c, d⟩, hB⟩ hK
    have hlen : pre.length = inv n f := by have := hR.inv; rw [inv_none hdn] at this; omega
    rw [hlen] at c
    simp only [World.size_alloc] at hD
    have HK := Lib.hid hK
    have HDB := Lib.hid hB
    clear hK hB hR hdn hlen
    gi_wp2
    refine ⟨by simp, .inl ⟨_, _, rfl, run_takeDeferred HK.out, ?_⟩⟩
    exact ⟨.tuple #[.int .i64 (inv n f), .int .i64 0], by simp [results, Try.f7, go_sem], rfl, HDB.out.trans (belowK_b (w := w) (Nat.le_refl _) W D _ _ (by omega) HK.out rfl rfl)⟩
end Go.Proofs.Ytpjfpkhcadombaa
