import Derived.Test.YtjodjfllgofkaaaIn
import Derived.Test.YtjodjfllgofkaaaMx
namespace Prm
/-- The exchanges that sort f, one after the other. -/
def exs (n : Nat) : Nat → (Nat → Int) → List Nat
  | 0, _ => []
  | m + 1, f => match desc f (n - 1) 0 with
    | none => []
    | some k => k :: exs n m (swp f k)
theorem exs_none {n m : Nat} {f : Nat → Int} (h : desc f (n - 1) 0 = none) : exs n m f = [] := by
  cases m with
  | zero => rfl
  | succ m => simp only [exs]; rw [h]
theorem Runs.exs {n : Nat} {f g : Nat → Int} {l : List Nat} (h : Runs n f l g) : ∀ m, Prm.exs n (l.length + m) f = l ++ Prm.exs n m g := by
  induction h with
  | nil => intro m; simp
  | step _ hd ih =>
    intro m
    have := ih (m + 1)
    simp only [List.length_append, List.length_cons, List.length_nil, Nat.zero_add, Nat.add_assoc]
    rw [Nat.add_comm 1 m, this]
    simp only [Prm.exs, hd, List.append_assoc, List.cons_append, List.nil_append]
theorem Runs.all {n : Nat} {f g : Nat → Int} {l : List Nat} (h : Runs n f l g) (hd : desc g (n - 1) 0 = none) : l = Prm.exs n (Prm.inv n f) f := by
  have e1 := h.inv
  rw [inv_none hd] at e1
  have e2 := h.exs 0
  rw [exs_none hd, List.append_nil] at e2
  rw [← e1]; exact e2.symm
def csE (n : Nat) (f : Nat → Int) : Int := if permB n f = true then (if n ≤ 6 then 0 else 4) else 40
end Prm
namespace Go.Proofs.Ytjodjfllgofkaaa
open Go.RowKit Go.Shelf Prm Amp
attribute [local go_sem] Oper.semAt_some

set_option maxRecDepth 100000 in
set_option maxHeartbeats 1000000 in
theorem checkSmall_any (n cap : Nat) (ao : Option Addr) (f : Nat → Int) (w : World) (hn : n ≤ 9223372036854775807) (hc : Ints w ao n f) :
    Calls Try.prog 73 #[.slice ao n cap] w fun e w' => e = .returned (.int .i64 (csE n f)) ∧ Below w.heap.size w w' := by
  have HC := Lib.hid hc
  clear hc
  cases hp : permB n f with
  | false =>
    have HE : Hid (csE n f = 40) := Lib.hid (by unfold csE; rw [hp]; rfl)
    have HP := Lib.hid hp
    clear hp
    go_enter Try.func73, Try.ntmps73
    go_wp2_with fail
    refine (validPerm_any n cap ao f _ hn HC.out).mono ?_
    rintro e w1 ⟨rfl, hb⟩
    rw [HP.out]
    have D1 := Lib.hid hb
    clear hb
    go_wp2_with fail
    go_returns
    exact ⟨by rw [HE.out] <;> rfl, D1.out⟩
  | true =>
    have HP := Lib.hid hp
    by_cases h6 : n ≤ 6
    · have HE : Hid (csE n f = 0) := Lib.hid (by unfold csE; rw [hp, if_pos h6]; rfl)
      have h6' : (n : Int) ≤ 6 := by omega
      clear hp h6
      go_enter Try.func73, Try.ntmps73
      go_wp2_with fail
      refine (validPerm_any n cap ao f _ hn HC.out).mono ?_
      rintro e w1 ⟨rfl, hb⟩
      rw [HP.out]
      have D1 := Lib.hid hb
      clear hb
      go_wp2_with fail
      go_returns
      exact ⟨by rw [HE.out] <;> rfl, D1.out⟩
    · have HE : Hid (csE n f = 4) := Lib.hid (by unfold csE; rw [hp, if_neg h6]; rfl)
      have h6' : 6 < (n : Int) := by omega
      clear hp h6
      go_enter Try.func73, Try.ntmps73
      go_wp2_with fail
      refine (validPerm_any n cap ao f _ hn HC.out).mono ?_
      rintro e w1 ⟨rfl, hb⟩
      rw [HP.out]
      have D1 := Lib.hid hb
      clear hb
      go_wp2_with fail
      go_returns
      exact ⟨by rw [HE.out] <;> rfl, D1.out⟩

theorem infoItem : (Try.prog.info? 68).map (fun i => (i.zero, i.size, i.bytes)) = some (some (.agg #[.int .i64 0, .int .i64 0, .int .i64 0, .string ⟨#[]⟩]), 4, 40) := by kernel_rfl
def cellsC (k : Nat) : List Value := [.int .i64 3, .int .i64 ((k : Int) + 1), .int .i64 0, .string ⟨#[]⟩]
def crow : List Nat → List Value
  | [] => []
  | k :: l => cellsC k ++ crow l
theorem crow_snoc (l : List Nat) (k : Nat) : crow (l ++ [k]) = crow l ++ cellsC k := by
  induction l with
  | nil => simp [crow]
  | cons a l ih => simp only [List.cons_append, crow, ih, List.append_assoc]
theorem crow_get {l : List Nat} {i k t : Nat} (h : l[i]? = some k) (ht : t < 4) : (crow l)[i * 4 + t]? = (cellsC k)[t]? := by
  induction l generalizing i with
  | nil => simp at h
  | cons a l ih =>
    have hl : (cellsC a).length = 4 := rfl
    cases i with
    | zero =>
      simp only [List.getElem?_cons_zero, Option.some.injEq] at h
      subst h
      simp only [crow]
      rw [List.getElem?_append_left (by omega), Nat.zero_mul, Nat.zero_add]
    | succ i =>
      simp only [List.getElem?_cons_succ] at h
      simp only [crow]
      rw [List.getElem?_append_right (by omega), hl, show (i + 1) * 4 + t - 4 = i * 4 + t by omega]
      exact ih h
/-- The item of a crossing on the guides k + 1 and k + 2. -/
def crIt (k : Nat) : It := ⟨3, (k : Int) + 1, 0, ⟨#[]⟩⟩
theorem Its.of_crow {w : World} {base : Nat} {e : TypeId} {v : Value} {l : List Nat} (h : w.ownsRow base e 4 v l.length (crow l)) : ∃ ao cap, v = .slice ao l.length cap ∧ Its w ao l.length (fun i => crIt (l[i]?.getD 0)) := by
  rcases h.2 with ⟨rfl, h0⟩ | ⟨g, cap, cur, rfl, _⟩
  · exact ⟨none, 0, by rw [h0], fun hn => absurd hn (by omega)⟩
  · refine ⟨_, cap, rfl, fun _ => ⟨g, 0, rfl, fun i hi => ?_⟩⟩
    have hk : l[i]? = some l[i] := by simp [hi]
    have c := fun t (ht : t < 4) => (h.cellAt (i * 4 + t) (by omega)).trans (crow_get hk ht)
    show ItAt w g (0 + i * 4) (crIt (l[i]?.getD 0))
    rw [Nat.zero_add, hk]
    exact ⟨c 0 (by omega), c 1 (by omega), c 2 (by omega), c 3 (by omega), by simp [maxLen, ByteArray.size, crIt]⟩
theorem own_put {w : World} {base : Nat} {e : TypeId} {s : Nat} {v : Value} {n : Nat} {xs : List Value} (h : w.ownsRow base e s v n xs) {l : Nat} {o o' : Obj} (hl : w.heap[l]? = some o) (ho : o.isCells = false) : (w.putObj l o').ownsRow base e s v n xs := by
  refine h.kept (grownBy_putObj' w l o') ?_
  rcases h.2 with ⟨rfl, _⟩ | ⟨g, cap, cur, rfl, _, hg, _⟩
  · exact .inl rfl
  · refine .inr fun e => ?_
    have e' : g = l := by simpa [Value.ownBlock] using e
    rw [← e', hg] at hl
    cases hl
    cases ho
theorem own_isCells {w : World} {base : Nat} {e : TypeId} {s : Nat} {v : Value} {n : Nat} {xs : List Value} (h : w.ownsRow base e s v n xs) : ∀ (j : Nat) (o : Obj), v.ownBlock = some j → w.heap[j]? = some o → o.isCells = true := by
  intro j o hj hw
  rcases h.2 with ⟨rfl, _⟩ | ⟨g, cap, cur, rfl, _, hg, _⟩
  · cases hj
  · have e' : g = j := by simpa [Value.ownBlock] using hj
    rw [← e', hg] at hw
    cases hw
    rfl
/-- Crossings of the call's own as a result. -/
def CrRet (w : World) (e : Ending) (l : List Nat) : Prop := ∃ ao cap, e = .returned (.tuple #[.slice ao l.length cap, .int .i64 0]) ∧ Its w ao l.length (fun i => crIt (l[i]?.getD 0))

set_option maxRecDepth 100000 in
set_option maxHeartbeats 1000000 in
theorem crossings_no (n cap : Nat) (ao : Option Addr) (f : Nat → Int) (w : World) (hn : n ≤ 9223372036854775807) (hc : Ints w ao n f) (hp : csE n f ≠ 0) :
    Calls Try.prog 33 #[.slice ao n cap] w fun e w' => e = .returned (.tuple #[.slice none 0 0, .int .i64 (csE n f)]) ∧ Below w.heap.size w w' := by
  have HC := Lib.hid hc
  obtain ⟨er, her⟩ : ∃ er, csE n f = er := ⟨_, rfl⟩
  rw [her] at hp
  rw [her]
  have HER := Lib.hid her
  have hb0 : (er == 0) = false := beq_eq_false_iff_ne.2 hp
  have hb1 : (er != 0) = true := bne_iff_ne.2 hp
  clear hc hp her
  go_enter Try.func33, Try.ntmps33
  go_wp2_with fail
  refine (checkSmall_any n cap ao f _ hn HC.out).mono ?_
  rintro e w1 ⟨rfl, hb⟩
  rw [HER.out]
  have D1 := Lib.hid hb
  clear hb
  go_wp2_with fail
  go_returns
  exact ⟨rfl, D1.out⟩

set_option maxRecDepth 100000 in
set_option maxHeartbeats 4000000 in
theorem crossings_ok (n cap b o : Nat) (f : Nat → Int) (w : World) (hc : ∀ i, i < n → w.cell? ⟨b, o + i, none⟩ = some (.int .i64 (f i))) (hp : permB n f = true) (h6 : n ≤ 6) :
    Calls Try.prog 33 #[.slice (some ⟨b, o, none⟩) n cap] w fun e w' => CrRet w' e (exs n (inv n f) f) ∧ Below w.heap.size w w' := by
  obtain ⟨h1, h64, _⟩ := permB_yes hp
  obtain ⟨i0, hi, hz0, hz1, hz2⟩ := info_parts infoItem
  have HI := Lib.hid (And.intro hi (And.intro hz0 (And.intro hz1 hz2)))
  clear hi hz0 hz1 hz2
  have HC := Lib.hid hc
  have HP : Hid (csE n f = 0) := Lib.hid (by unfold csE; rw [hp, if_pos h6]; rfl)
  have hbs : b < w.heap.size := World.block_lt_of_cell? w _ (hc 0 (by omega))
  clear hc hp
  refine (callsIn_wide (n := 8)).1 ?_
  refine callsIn_of_wp_marks Try.func33 rfl trivial ?_ rfl
  simp only [Try.ntmps33, List.size_toArray, List.length_cons, List.length_nil, Nat.reduceAdd, Nat.reduceSub, Array.replicate_succ, Array.replicate_zero, List.push_toArray, List.append_toArray, List.nil_append, List.cons_append]
  gi_wp2_with fail
  refine ⟨trivial, (callsIn_wide.2 (checkSmall_any n cap (some ⟨b, o, none⟩) f _ (by omega) (fun _ => ⟨b, o, rfl, HC.out⟩))).mono ?_⟩
  rintro e w1 ⟨rfl, hb⟩
  rw [HP.out]
  have HC1 : Hid (∀ i, i < n → w1.cell? ⟨b, o + i, none⟩ = some (.int .i64 (f i))) := Lib.hid fun i hi => (hb.cell (p := ⟨b, o + i, none⟩) hbs).trans (HC.out i hi)
  have D1 := Lib.hid hb
  have hbs1 : b < w1.heap.size := Nat.lt_of_lt_of_le hbs hb.size
  clear hb
  gi_wp2_with fail
  refine ⟨trivial, (exchanges_in _ (some ⟨b, o, none⟩) n cap _).mono ?_⟩
  rintro e w2 ⟨rfl, rfl⟩
  gi_wp2_with fail
  have hsw : w.heap.size ≤ w1.heap.size := D1.out.size
  have HBW : Hid (Below w.heap.size w ((w1.alloc (.cells #[.slice none 0 0] 22)).alloc (.cells #[.slice (some ⟨b, o, none⟩) n cap] 36))) := Lib.hid ((D1.out.alloc hsw _).alloc (by simp; omega) _)
  refine wpIn_iter (S := fun pre => ∃ g, Runs n f pre g ∧ desc g (n - 1) 0 = none) (N := inv n f) (M := n) rfl (by omega) (gf := 100) (lb := #[.pointer (some ⟨w1.heap.size + 1, 0, none⟩)]) rfl trivial (enters_of Try.func100 (by kernel_rfl) rfl)
    (exch_iter _ (w1.heap.size + 1) n cap b o f _ h1 h64 (by go_cell) (fun i hi => (((Below.refl _ w1).alloc (Nat.le_refl _) _).alloc (by simp) _).cell (p := ⟨b, o + i, none⟩) hbs1 |>.trans (HC1.out i hi))) rfl
    (fun ib pre W => (∃ lv, W.cell? ⟨w1.heap.size, 0, none⟩ = some lv ∧ W.frozen? ⟨w1.heap.size, 0, none⟩ = false ∧ W.ownsRow (ib + 1) 68 4 lv pre.length (crow pre)) ∧ Below w.heap.size w W)
    ?hb ?hs ?hp ?h0
    (fun x => { tmps := #[.slice (some ⟨b, o, none⟩) n cap, undef, .slice none 0 0, .int .i64 0, .int .i64 0, .pointer (some ⟨w1.heap.size, 0, none⟩), .int .i64 x, .slice (some ⟨b, o, none⟩) n cap, .int .i64 0, .int .i64 0, .bool false, undef, .slice (some ⟨b, o, none⟩) n cap, .func (.func 100) #[] #[.pointer (some ⟨w1.heap.size + 1, 0, none⟩)], .int .i64 x, undef, undef, undef, undef, undef, undef, undef], defers := [] }) ?assign ?body ?done
  case hb =>
    rintro ib pre A B ⟨⟨lv, c, d, ho⟩, hB⟩ hb
    have hlt := World.block_lt_of_cell? A _ c
    exact ⟨⟨lv, (hb.cell (p := ⟨w1.heap.size, 0, none⟩) hlt).trans c, (hb.frozen (p := ⟨w1.heap.size, 0, none⟩) hlt).trans d, own_below' ho hb⟩, hB.trans (hb.mono hB.size)⟩
  case hs =>
    rintro ib pre A k v hib ⟨⟨lv, c, d, ho⟩, hB⟩
    simp only [World.size_alloc] at hib
    have hne : ¬ ib = w1.heap.size := by omega
    exact ⟨⟨lv, by go_cell, by go_cell, own_set ho (by omega)⟩, hB.setCell (p := ⟨ib, k, none⟩) (by show w.heap.size ≤ ib; omega) _⟩
  case hp =>
    rintro ib pre A l x x' hl hA hx ⟨⟨lv, c, d, ho⟩, hB⟩
    simp only [World.size_alloc] at hl
    have hr : ∀ r, some l = some r → ∃ y : Obj, A.heap[r]? = some y ∧ y.isCells = false := fun r e => by cases e; exact ⟨x, hA, hx⟩
    exact ⟨⟨lv, cell_kept c (grownBy_putObj' A l x') hr, (frozen_kept c (grownBy_putObj' A l x') hr).trans d, own_put ho hA hx⟩, hB.grown (grownBy_putObj' A l x') (Nat.le_trans hsw (by have := (Array.getElem?_eq_some_iff.1 hA).1; omega)) (fun k e => by cases e; omega)⟩
  case h0 =>
    intro ib
    exact ⟨⟨.slice none 0 0, by go_cell, by go_cell, World.ownsRow_nil _ _ _ _⟩, HBW.out⟩
  case assign =>
    intro l x W K hK
    gi_wp2
    first
      | simpa using hK
      | (simp [Array.zip, Array.zipWith]; exact hK)
  case body =>
    rintro l ib pre x W hib hlt ⟨⟨lv, c, d, ho⟩, hB⟩ hN hM
    simp only [World.size_alloc] at hib
    have hbd : pre.length ≤ 4096 := by have := inv_le n f; have := Nat.mul_le_mul h64 h64; omega
    have hne : ¬ w1.heap.size = ib := by omega
    have HNB : Hid (∀ k, lv.ownBlock = some k → ib + 1 ≤ k ∧ k < W.heap.size) := Lib.hid ho.lt
    have HO := Lib.hid ho
    have HDB := Lib.hid hB
    have hsW : w1.heap.size < W.heap.size := by omega
    have hx8 : (x : Int) ≤ 64 := by omega
    clear ho hB hN hM
    gi_wp2_with (gi_at_builtin; refine wpListIn_append_own _ rfl (.tmp 15) (.tmp 19) 22 rfl (ib + 1) 68 i0 _ 4 40 Try.underlying22 HI.out.1 HI.out.2.1 HI.out.2.2.1 HI.out.2.2.2 rfl (by decide) _ pre.length (crow pre) rfl (HO.out.alloc _) ⟨W.heap.size, 0, none⟩ 1 1 (cellsC x) rfl rfl ?c1 ?c2 ?c3 ?c4 ?c5 ?_)
    case c1 => exact fun j u hu => World.news_of_block (cs := #[.int .i64 3, .int .i64 ((x : Int) + 1), .int .i64 0, .string ⟨#[]⟩]) (World.alloc_heap_new W _) j u hu
    case c2 =>
      intro u hu
      simp only [cellsC, List.mem_cons, List.not_mem_nil, or_false] at hu
      rcases hu with rfl | rfl | rfl | rfl <;> rfl
    case c3 => unfold maxLen; omega
    case c4 => omega
    case c5 => simp; omega
    intro v' w3 hown' hgrow _
    obtain ⟨g', cap', rfl, hgB, hgs, _, _⟩ := own_fm hown' (by omega)
    rw [← crow_snoc] at hown'
    have hlbne : some w1.heap.size ≠ lv.ownBlock := fun e => by have := (HNB.out _ e.symm).1; omega
    have hibne : some ib ≠ lv.ownBlock := fun e => by have := (HNB.out _ e.symm).1; omega
    have e0 := farc hgrow (a := ⟨w1.heap.size, 0, none⟩) (v := lv) (by go_cell) hlbne
    have e1 := farf hgrow (a := ⟨w1.heap.size, 0, none⟩) (v := lv) (by go_cell) (by go_cell) hlbne
    have e2 : w3.heap[ib]? = W.heap[ib]? := (hgrow.block ib (by simp; omega) hibne).trans (Below.heap_alloc W _ _ hlt)
    have HK3 : Hid (KeepsOthers W w3) := Lib.hid ((KeepsOthers.alloc W _).trans (KeepsOthers.of_grownBy hgrow (own_isCells (HO.out.alloc _))))
    have HB3 : Hid (Below w.heap.size w w3) := Lib.hid ((HDB.out.alloc (by omega) _).grown hgrow (by simp; omega) (fun k hk => by have := (HNB.out k hk).1; omega))
    have HO3 := Lib.hid hown'
    have HE2 := Lib.hid e2
    have hlen : (pre ++ [x]).length = pre.length + 1 := by simp
    have HL := Lib.hid hlen
    clear hown' hgrow hlen e2 hlbne hibne
    gi_wp2_with fail
    refine ⟨HK3.out.trans (KeepsOthers.setCell _ _ _), ⟨⟨.slice (some ⟨g', 0, none⟩) (pre.length + 1) cap', by go_cell, by go_cell, ?_⟩, HB3.out.setCell (p := ⟨w1.heap.size, 0, none⟩) hsw _⟩, ?_⟩
    · rw [HL.out]; exact own_set HO3.out (by omega)
    · rw [Below.heap_setCell _ _ _ _ (by show ib ≠ w1.heap.size; omega)]; exact HE2.out
  case done =>
    rintro D ib pre W hD ⟨g, hR, hdn⟩ ⟨⟨lv, c, d, ho⟩, hB⟩ hK
    have hpe := hR.all hdn
    obtain ⟨ao, lc, rfl, hits⟩ := Its.of_crow (own_put ho hK rfl (o' := .deferred none))
    rw [hpe] at c hits
    simp only [World.size_alloc] at hD
    have HK := Lib.hid hK
    have HDB := Lib.hid hB
    have HITS := Lib.hid hits
    clear hK hB hR hdn hpe hits ho
    gi_wp2
    refine ⟨by simp, .inl ⟨_, _, rfl, run_takeDeferred HK.out, ?_⟩⟩
    exact ⟨.tuple #[.slice ao (exs n (inv n f) f).length lc, .int .i64 0], by simp [results, Try.f33, go_sem], ⟨ao, lc, rfl, HITS.out⟩, HDB.out.trans (belowK_b (w := w) (Nat.le_refl _) W D _ _ (by omega) HK.out rfl rfl)⟩
end Go.Proofs.Ytjodjfllgofkaaa

namespace Go.Proofs.Ytjodjfllgofkaaa
open Go.RowKit Prm Amp
def f201 (i : Nat) : Int := if i = 0 then 2 else if i = 1 then 0 else 1
theorem f201_cells {w : World} {b : Nat} (h0 : w.cell? ⟨b, 0, none⟩ = some (.int .i64 2)) (h1 : w.cell? ⟨b, 1, none⟩ = some (.int .i64 0)) (h2 : w.cell? ⟨b, 2, none⟩ = some (.int .i64 1)) : ∀ i, i < 3 → w.cell? ⟨b, 0 + i, none⟩ = some (.int .i64 (f201 i)) := by
  intro i hi
  rw [Nat.zero_add]
  rcases (show i = 0 ∨ i = 1 ∨ i = 2 by omega) with rfl | rfl | rfl
  · exact h0
  · exact h1
  · exact h2
set_option maxRecDepth 100000 in
set_option maxHeartbeats 4000000 in
theorem sane_any (w : World) : Calls Try.prog 30 #[] w fun e w' => e = .returned (.bool true) ∧ Below w.heap.size w w' := by
  have HP : Hid (permB 3 f201 = true) := Lib.hid (by decide)
  have HV : Hid (inv 3 f201 = 2) := Lib.hid (by decide)
  have HX : Hid (exs 3 2 f201 = [0, 1]) := Lib.hid (by decide)
  go_enter Try.func30, Try.ntmps30
  go_wp2_with fail
  refine (inversions_ok 3 3 w.heap.size 0 f201 _ (f201_cells (by go_cell) (by go_cell) (by go_cell)) HP.out).mono ?_
  rw [HV.out]
  rintro e w1 ⟨rfl, hb⟩
  have D1 : Below w.heap.size w w1 := Below.trans (by go_grown) (hb.mono (by first | omega | (simp; done) | (simp; omega)))
  have HD1 := Lib.hid D1
  clear D1 hb
  go_wp2_with fail
  refine (crossings_ok 3 3 w1.heap.size 0 f201 _ (f201_cells (by go_cell) (by go_cell) (by go_cell)) HP.out (by omega)).mono ?_
  rw [HV.out, HX.out]
  rintro e w2 ⟨⟨ao, cap, rfl, hit⟩, hb⟩
  have D2 : Below w.heap.size w w2 := (HD1.out.alloc HD1.out.size _).trans (hb.mono (by have := HD1.out.size; simp; omega))
  obtain ⟨g, o, rfl, hc⟩ := hit (by simp)
  have c0 : w2.cell? ⟨g, o + 1, none⟩ = some (.int .i64 1) := (hc 0 (by simp)).2.1
  have c1 : w2.cell? ⟨g, o + 4 + 1, none⟩ = some (.int .i64 2) := (hc 1 (by simp)).2.1
  clear hit hc hb
  go_wp2_with fail
  go_returns
  exact ⟨rfl, D2⟩
end Go.Proofs.Ytjodjfllgofkaaa
