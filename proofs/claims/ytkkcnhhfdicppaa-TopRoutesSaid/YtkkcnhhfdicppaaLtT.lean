import Derived.Test.YtkkcnhhfdicppaaBuT
import Derived.Test.YtkkcnhhfdicppaaCpT
import Derived.Test.YtkkcnhhfdicppaaRmT
import Derived.Test.YtkkcnhhfdicppaaRy7
import Derived.Test.YtkkcnhhfdicppaaLk7
import Derived.Test.YtkkcnhhfdicppaaMv7
import Derived.Test.YtkkcnhhfdicppaaIq7
namespace Lay
def slC (A : Nat → Option Go.Addr) (N C : Nat → Nat) (k : Nat) : List Go.Value := (List.range k).map fun j => .slice (A j) (N j) (C j)
theorem slC_len (A : Nat → Option Go.Addr) (N C : Nat → Nat) (k : Nat) : (slC A N C k).length = k := by unfold slC; simp
theorem slC_get (A : Nat → Option Go.Addr) (N C : Nat → Nat) {k j : Nat} (h : j < k) : (slC A N C k)[j]? = some (.slice (A j) (N j) (C j)) := by unfold slC; rw [List.getElem?_map, List.getElem?_range h]; rfl
def upA {α : Type} (f : Nat → α) (k : Nat) (v : α) : Nat → α := fun j => if j = k then v else f j
theorem upA_old {α : Type} {f : Nat → α} {k j : Nat} {v : α} (h : j < k) : upA f k v j = f j := by unfold upA; rw [if_neg (by omega)]
theorem upA_new {α : Type} {f : Nat → α} {k : Nat} {v : α} : upA f k v k = v := by unfold upA; rw [if_pos rfl]
theorem slC_up (A : Nat → Option Go.Addr) (N C : Nat → Nat) (k : Nat) (a : Option Go.Addr) (n c : Nat) : slC (upA A k a) (upA N k n) (upA C k c) (k + 1) = slC A N C k ++ [.slice a n c] := by
  unfold slC
  rw [List.range_succ, List.map_append]
  congr 1
  · refine List.map_congr_left fun j hj => ?_
    have := List.mem_range.1 hj
    rw [upA_old this, upA_old this, upA_old this]
  · simp [upA_new]
end Lay
namespace Go.Proofs.Ytkkcnhhfdicppaa
open Go.RowKit Lay
theorem sl_info : (Try.prog.info? 22 ).map (fun i => (i.zero, i.size, i.bytes)) = some (some (.slice none 0 0), 1, 24) := by kernel_rfl
/-- A row of paths that are right, none of which lies in the row's own block. -/
def PTS (w : World) (base : Nat) (v : Value) (Wn Hn : Nat) (K : Int → Int → Bool) (cnt : Nat) : Prop :=
  ∃ (PA : Nat → Option Addr) (N C : Nat → Nat) (X Y : Nat → Nat → Int), w.ownsRow base 22 1 v cnt (slC PA N C cnt) ∧ ∀ j, j < cnt → (∃ b o, PA j = some ⟨b, o, none⟩ ∧ v.ownBlock ≠ some b ∧ b < w.heap.size) ∧ XYs w (PA j) (N j) (X j) (Y j) ∧ chE Wn Hn K (X j) (Y j) (N j) = 0 ∧ N j ≤ 100
theorem PTS.keep {w w' : World} {base : Nat} {v : Value} {Wn Hn : Nat} {K : Int → Int → Bool} {cnt : Nat} (h : PTS w base v Wn Hn K cnt) (hb : Below w.heap.size w w') : PTS w' base v Wn Hn K cnt := by
  obtain ⟨PA, N, C, X, Y, h1, h2⟩ := h
  refine ⟨PA, N, C, X, Y, own_below' h1 hb, fun j hj => ?_⟩
  obtain ⟨⟨b, o, e, hne, hlt⟩, h3, h4⟩ := h2 j hj
  exact ⟨⟨b, o, e, hne, by have := hb.size; omega⟩, h3.keep hb, h4⟩
theorem PTS.base {w : World} {base b2 : Nat} {v : Value} {Wn Hn : Nat} {K : Int → Int → Bool} {cnt : Nat} (h : PTS w base v Wn Hn K cnt) (hb : b2 ≤ base) : PTS w b2 v Wn Hn K cnt := by
  obtain ⟨PA, N, C, X, Y, h1, h2⟩ := h
  exact ⟨PA, N, C, X, Y, ownsRow_base h1 hb, h2⟩
/-- As the slice of paths that other functions take. -/
theorem PTS.out {w : World} {base : Nat} {v : Value} {Wn Hn : Nat} {K : Int → Int → Bool} {cnt : Nat} (h : PTS w base v Wn Hn K cnt) :
    ∃ (sa : Option Addr) (cq : Nat) (PA : Nat → Option Addr) (N C : Nat → Nat) (X Y : Nat → Nat → Int), v = .slice sa cnt cq ∧ cnt ≤ cq ∧ PSl w sa cnt PA N C X Y ∧ ∀ j, j < cnt → chE Wn Hn K (X j) (Y j) (N j) = 0 ∧ N j ≤ 100 := by
  obtain ⟨PA, N, C, X, Y, h1, h2⟩ := h
  obtain ⟨_, ⟨rfl, rfl⟩ | ⟨g, cap, cur, rfl, _, hg, hnc, _, _, ht⟩⟩ := h1
  · exact ⟨none, 0, PA, N, C, X, Y, rfl, Nat.le_refl _, fun h => absurd h (by omega), fun j hj => by omega⟩
  · refine ⟨_, cap, PA, N, C, X, Y, rfl, hnc, fun _ => ⟨g, 0, rfl, fun j hj => ⟨?_, (h2 j hj).2.1⟩⟩, fun j hj => (h2 j hj).2.2⟩
    refine cell_of_blk hg ?_
    have hu := slC_get PA N C hj
    rw [← ht, List.getElem?_take_of_lt (by omega), Array.getElem?_toList] at hu
    rw [Nat.zero_add]
    exact hu
/-- One more path behind the row. -/
theorem PTS.add {w w' : World} {base : Nat} {v v' : Value} {Wn Hn : Nat} {K : Int → Int → Bool} {cnt : Nat} {PA : Nat → Option Addr} {N C : Nat → Nat} {X Y : Nat → Nat → Int} (h2 : ∀ j, j < cnt → (∃ b o, PA j = some ⟨b, o, none⟩ ∧ v.ownBlock ≠ some b ∧ b < w.heap.size) ∧ XYs w (PA j) (N j) (X j) (Y j) ∧ chE Wn Hn K (X j) (Y j) (N j) = 0 ∧ N j ≤ 100)
    {b o n c : Nat} {X1 Y1 : Nat → Int} (hown : w'.ownsRow base 22 1 v' (cnt + 1) (slC PA N C cnt ++ [.slice (some ⟨b, o, none⟩) n c])) (hgr : w.grownBy w' v.ownBlock) (hat : v'.ownBlock = v.ownBlock ∨ v'.ownBlock = some w.heap.size)
    (hb : v.ownBlock ≠ some b) (hlt : b < w.heap.size) (hxy : XYs w (some ⟨b, o, none⟩) n X1 Y1) (he : chE Wn Hn K X1 Y1 n = 0) (h9 : n ≤ 100) : PTS w' base v' Wn Hn K (cnt + 1) := by
  have hs := hgr.size
  have kp : ∀ {b o n : Nat} {X Y : Nat → Int}, v.ownBlock ≠ some b → b < w.heap.size → XYs w (some ⟨b, o, none⟩) n X Y → XYs w' (some ⟨b, o, none⟩) n X Y := by
    intro b o n X Y hne hlt hx h0
    obtain ⟨b', o', e, hc⟩ := hx h0
    cases e
    have hbk := hgr.block _ hlt (fun e => hne e.symm)
    exact ⟨b, o, rfl, fun i hi => ⟨(World.cell?_of_block hbk).trans (hc i hi).1, (World.cell?_of_block hbk).trans (hc i hi).2⟩⟩
  have ne : ∀ {b : Nat}, v.ownBlock ≠ some b → b < w.heap.size → v'.ownBlock ≠ some b := by
    intro b h1 h2
    rcases hat with h | h
    · rw [h]; exact h1
    · rw [h]; intro e; cases e; omega
  refine ⟨upA PA cnt (some ⟨b, o, none⟩), upA N cnt n, upA C cnt c, upA X cnt X1, upA Y cnt Y1, by rw [slC_up]; exact hown, fun j hj => ?_⟩
  by_cases hjc : j < cnt
  · rw [upA_old hjc, upA_old hjc, upA_old hjc, upA_old hjc]
    obtain ⟨⟨b', o', e, hne, hlt'⟩, hx, hc⟩ := h2 j hjc
    rw [e] at hx ⊢
    exact ⟨⟨b', o', rfl, ne hne hlt', by omega⟩, kp hne hlt' hx, hc⟩
  · obtain rfl : j = cnt := by omega
    rw [upA_new, upA_new, upA_new, upA_new]
    exact ⟨⟨b, o, rfl, ne hb hlt, by omega⟩, kp hb hlt hxy, he, h9⟩
/-- A slice of pairs of cells. -/
def PrS (w : World) (pa : Option Addr) (m : Nat) (FX FY TX_ TY : Nat → Int) : Prop := 0 < m → ∃ b o, pa = some ⟨b, o, none⟩ ∧ ∀ j, j < m → XyAt w b (o + j * 4) (FX j) (FY j) ∧ XyAt w b (o + j * 4 + 2) (TX_ j) (TY j)
theorem PrS.keep {w w1 : World} {pa : Option Addr} {m : Nat} {FX FY TX_ TY : Nat → Int} (h : PrS w pa m FX FY TX_ TY) (hb : Below w.heap.size w w1) : PrS w1 pa m FX FY TX_ TY := by
  intro h0
  obtain ⟨b, o, e, hc⟩ := h h0
  exact ⟨b, o, e, fun j hj => ⟨(hc j hj).1.keep hb, (hc j hj).2.keep hb⟩⟩

set_option maxRecDepth 100000 in
set_option maxHeartbeats 64000000 in
/-- Grids that are not asked for. -/
theorem top_out (W H M B : Int) (nb cb np cp nf cf : Nat) (ao pa af : Option Addr) (XB YB : Nat → Int) (w : World) (hn : nb ≤ 9223372036854775807) (hc : XYs w ao nb XB YB) (hbad : vaG W H M B nb XB YB = false ∨ 100 < W * H ∨ 5 < np) :
    Calls Try.prog 11 #[.agg #[.int .i64 W, .int .i64 H, .int .i64 M, .int .i64 B, .slice ao nb cb], .slice pa np cp, .slice af nf cf] w fun e w' => e = .returned (.bool true) ∧ Below w.heap.size w w' := by
  have HC := Lib.hid hc
  clear hc
  go_enter Try.func11, Try.ntmps11
  go_wp2_with fail
  refine (rValid_any W H M B nb cb ao XB YB _ hn (HC.out.keep (by go_grown))).mono ?_
  obtain ⟨va, hva⟩ : ∃ z, vaG W H M B nb XB YB = z := ⟨_, rfl⟩
  rw [hva] at hbad ⊢
  rintro e w1 ⟨rfl, hb⟩
  have HB1 : Hid (Below w.heap.size w w1) := Lib.hid (Below.trans (by go_grown) (hb.mono (by simp)))
  have KG1 : Hid (w1.heap[w.heap.size]? = some (.cells #[.int .i64 W, .int .i64 H, .int .i64 M, .int .i64 B, .slice ao nb cb] 24 (0, 0))) := Lib.hid ((hb.block _ (by simp)).trans (heap_alloc_new w _))
  clear hb
  cases va with
  | false =>
    go_wp2_with fail
    refine (guided_any _).mono ?_
    rintro e w2 ⟨rfl, hb⟩
    have HB2 : Hid (Below w.heap.size w w2) := Lib.hid (HB1.out.trans (hb.mono HB1.out.size))
    clear hb
    go_wp2_with fail
    refine bodyPost_ret (v := .bool true) (by simp [results, Try.results11, go_sem]) rfl ⟨rfl, HB2.out⟩
  | true =>
    obtain ⟨hnum, _⟩ := vaG_num hva
    have hwh := wh_le hnum.1 hnum.2.1 hnum.2.2.1 hnum.2.2.2.1
    have hw : IntKind.i64.wrap (W * H) = W * H := by rw [IntKind.wrap_i64]; omega
    obtain ⟨g0, g1⟩ : w1.cell? ⟨w.heap.size, 0, none⟩ = some (.int .i64 W) ∧ w1.cell? ⟨w.heap.size, 1, none⟩ = some (.int .i64 H) := ⟨cell_of_blk KG1.out rfl, cell_of_blk KG1.out rfl⟩
    obtain ⟨wh, hwhe⟩ : ∃ z, W * H = z := ⟨_, rfl⟩
    rw [hwhe] at hbad hw
    clear hnum hwh hva
    by_cases h100 : 100 < wh
    · go_wp2_with fail
      refine (guided_any _).mono ?_
      rintro e w2 ⟨rfl, hb⟩
      have HB2 : Hid (Below w.heap.size w w2) := Lib.hid (HB1.out.trans (hb.mono HB1.out.size))
      clear hb
      go_wp2_with fail
      refine bodyPost_ret (v := .bool true) (by simp [results, Try.results11, go_sem]) rfl ⟨rfl, HB2.out⟩
    · have h5 : (5 : Int) < np := by rcases hbad with h | h | h <;> first | (cases h; done) | omega
      go_wp2_with fail
      refine (guided_any _).mono ?_
      rintro e w2 ⟨rfl, hb⟩
      have HB2 : Hid (Below w.heap.size w w2) := Lib.hid (HB1.out.trans (hb.mono HB1.out.size))
      clear hb
      go_wp2_with fail
      refine bodyPost_ret (v := .bool true) (by simp [results, Try.results11, go_sem]) rfl ⟨rfl, HB2.out⟩

/-- Route, whatever it answers. -/
theorem tRoute_any (Wn Hn : Nat) (M B fx fy tx ty : Int) (nb cb : Nat) (ao : Option Addr) (XB YB : Nat → Int) (w : World) (hv : vaG Wn Hn M B nb XB YB = true) (h100 : Hn * Wn ≤ 100) (hc : XYs w ao nb XB YB) :
    Calls Try.prog 28 #[.agg #[.int .i64 Wn, .int .i64 Hn, .int .i64 M, .int .i64 B, .slice ao nb cb], .agg #[.int .i64 fx, .int .i64 fy], .agg #[.int .i64 tx, .int .i64 ty]] w fun e w' => ∃ (v : Value) (c re : Int), e = .returned (.tuple #[v, .int .i64 c, .int .i64 re]) ∧ Below w.heap.size w w' ∧
      (re = 72 ∨ (re = 5 ∧ opB Wn Hn (blkN XB YB nb) tx ty = true ∧ ∀ F, Costs Wn Hn (blkN XB YB nb) M B tx ty F → farS F B tx ty fx fy = -1) ∨
        (re = 0 ∧ opB Wn Hn (blkN XB YB nb) tx ty = true ∧ ∃ (F : Int → Int → Int → Option Int) (L b cc : Nat) (X Y : Nat → Int), Costs Wn Hn (blkN XB YB nb) M B tx ty F ∧ v = .slice (some ⟨b, 0, none⟩) (L + 1) cc ∧ w.heap.size ≤ b ∧ XYs w' (some ⟨b, 0, none⟩) (L + 1) X Y ∧ chE Wn Hn (blkN XB YB nb) X Y (L + 1) = 0 ∧ L + 1 ≤ 100 ∧ X 0 = fx ∧ Y 0 = fy ∧ X L = tx ∧ Y L = ty ∧ coN M B X Y L = c ∧ farS F B tx ty fx fy = c)) := by
  obtain ⟨hnum, _⟩ := vaG_num hv
  have hn : nb ≤ 9223372036854775807 := by omega
  by_cases hto : opB Wn Hn (blkN XB YB nb) tx ty = true
  case neg =>
    have hto' : opB Wn Hn (blkN XB YB nb) tx ty = false := by simpa using hto
    by_cases hfo : opB Wn Hn (blkN XB YB nb) fx fy = true
    case neg =>
      refine (pRoute_from Wn Hn M B fx fy tx ty nb cb ao XB YB w hc hv (by simpa using hfo)).mono ?_
      rintro e w2 ⟨rfl, hb⟩
      exact ⟨_, 0, 72, rfl, hb, Or.inl rfl⟩
    refine (pRoute_to Wn Hn M B fx fy tx ty nb cb ao XB YB w hc hv hfo hto').mono ?_
    rintro e w2 ⟨rfl, hb⟩
    exact ⟨_, 0, 72, rfl, hb, Or.inl rfl⟩
  by_cases hfo : opB Wn Hn (blkN XB YB nb) fx fy = true
  case neg =>
    refine (pRoute_from Wn Hn M B fx fy tx ty nb cb ao XB YB w hc hv (by simpa using hfo)).mono ?_
    rintro e w2 ⟨rfl, hb⟩
    exact ⟨_, 0, 72, rfl, hb, Or.inl rfl⟩
  by_cases hno : (¬ (fx = tx ∧ fy = ty)) ∧ ∀ F, Costs Wn Hn (blkN XB YB nb) M B tx ty F → (chp F B fx fy (-1)).1 = -1
  · refine (pRoute_none Wn Hn M B fx fy tx ty nb cb ao XB YB w hc hv hfo hto hno.1 hno.2).mono ?_
    rintro e w2 ⟨rfl, hb⟩
    exact ⟨_, 0, 5, rfl, hb, Or.inr (Or.inl ⟨rfl, hto, fun F hF => route_none hno.1 (hno.2 F hF)⟩)⟩
  have hway : ∀ F, Costs Wn Hn (blkN XB YB nb) M B tx ty F → ∃ nn l c, rt F M B tx ty nn fx fy (-1) = some (l, c) ∧ c ≤ 9000000 := fun F hF => by
    rcases route_way (fx := fx) (fy := fy) hF.1 hF.2 ⟨by omega, by omega⟩ ⟨by omega, by omega⟩ with h | ⟨h1, h2⟩
    · exact h
    · exact absurd ⟨h1, fun G hG => by rw [hG.uniq hF]; exact h2⟩ hno
  refine (pRoute_any Wn Hn M B fx fy tx ty nb cb ao XB YB w hc hv hfo hto hway).mono ?_
  rintro e w2 ⟨F, nn, l, c, v, hF, hr, rfl, hown, hb⟩
  obtain ⟨L, X, Y, hp, hl, hs, hch, a0, a1, a2, a3, hco, hfar⟩ := route_math (by omega) (by omega) ⟨by omega, by omega⟩ ⟨by omega, by omega⟩ hfo hto hF hr
  rw [hl, hp] at hown
  have hpl : ∀ i, i < L + 1 → (prL X Y (L + 1)).getD i (0, 0) = (X i, Y i) := fun i hi => by
    rw [List.getD_eq_getElem?_getD]
    unfold prL
    rw [List.getElem?_map, List.getElem?_range hi]
    rfl
  obtain ⟨g, cap, cur, rfl, hg, hgb, hcur⟩ := own_blk hown (prL_len _ _ _) (by omega)
  exact ⟨_, c, 0, rfl, hb, Or.inr (Or.inr ⟨rfl, hto, F, L, g, cap, X, Y, hF, rfl, hg, fun _ => ⟨g, 0, rfl, fun i hi => by
    have h := hcur i hi
    rw [hpl i hi] at h
    rw [Nat.zero_add]
    exact ⟨cell_of_blk hgb h.1, cell_of_blk hgb h.2⟩⟩, hch, by omega, a0, a1, a2, a3, hco, hfar⟩)⟩
/-- Far, whatever it answers. -/
theorem tFar_any (Wn Hn N : Nat) (M B tx ty : Int) (nb cb : Nat) (ao : Option Addr) (XB YB : Nat → Int) (w : World) (hv : vaG Wn Hn M B nb XB YB = true) (hN : (N : Int) = (Wn : Int) * Hn) (hc : XYs w ao nb XB YB) :
    Calls Try.prog 25 #[.agg #[.int .i64 Wn, .int .i64 Hn, .int .i64 M, .int .i64 B, .slice ao nb cb], .agg #[.int .i64 tx, .int .i64 ty]] w fun e w' => ∃ (ac : Option Addr) (m cc : Nat) (k : Int), e = .returned (.tuple #[.slice ac m cc, .int .i64 k]) ∧ Below w.heap.size w w' ∧ (opB Wn Hn (blkN XB YB nb) tx ty = true → k = 0 ∧ m = N ∧ ∃ F, Costs Wn Hn (blkN XB YB nb) M B tx ty F ∧ Ints w' ac N (fun j => farS F B tx ty (j % Wn : Nat) (j / Wn : Nat))) := by
  by_cases hto : opB Wn Hn (blkN XB YB nb) tx ty = true
  case neg =>
    refine (pFar_block Wn Hn M B tx ty nb cb ao XB YB w hc hv (by simpa using hto)).mono ?_
    rintro e w2 ⟨rfl, hb⟩
    exact ⟨none, 0, 0, 72, rfl, hb, fun h => absurd h hto⟩
  refine (pFar_ok Wn Hn M B tx ty nb cb N ao XB YB w hc hv hto hN).mono ?_
  rintro e w2 ⟨v, F, rfl, hF, hown, hb⟩
  obtain ⟨a, c, rfl, hi⟩ := own_ints hown
  exact ⟨a, N, c, 0, rfl, hb, fun _ => ⟨rfl, rfl, F, hF, hi⟩⟩
set_option maxRecDepth 100000 in
set_option maxHeartbeats 64000000 in
theorem top_main (Wn Hn : Nat) (M B : Int) (nb cb np cp nf cf : Nat) (ao pa af : Option Addr) (XB YB FX FY TX_ TY pf : Nat → Int) (w : World) (hn : nb ≤ 9223372036854775807) (hc : XYs w ao nb XB YB) (hv : vaG Wn Hn M B nb XB YB = true) (h100 : Hn * Wn ≤ 100) (h5 : np ≤ 5) (hp : PrS w pa np FX FY TX_ TY) (hnf : nf ≤ 9223372036854775807) (hf : Ints w af nf pf) :
    Calls Try.prog 11 #[.agg #[.int .i64 Wn, .int .i64 Hn, .int .i64 M, .int .i64 B, .slice ao nb cb], .slice pa np cp, .slice af nf cf] w fun e w' => e = .returned (.bool true) ∧ Below w.heap.size w w' := by
  obtain ⟨i0, hi, hi0, hi1, hi2⟩ := info_parts sl_info
  have HI := Lib.hid (And.intro hi (And.intro hi0 (And.intro hi1 hi2)))
  clear hi hi0 hi1 hi2
  have HC := Lib.hid hc
  have HV := Lib.hid hv
  have HP := Lib.hid hp
  have HF := Lib.hid hf
  obtain ⟨hnum, _⟩ := vaG_num hv
  obtain ⟨N, hN⟩ : ∃ z, z = Hn * Wn := ⟨_, rfl⟩
  have hNW : (N : Int) = (Wn : Int) * Hn := by rw [hN, Int.natCast_mul, Int.mul_comm]
  have hw : IntKind.i64.wrap ((Wn : Int) * Hn) = (N : Int) := by rw [← hNW, IntKind.wrap_i64]; omega
  have h1 : ¬ (100 : Int) < N := by omega
  have h2 : ¬ (5 : Int) < np := by omega
  have HNN := Lib.hid (And.intro hN hNW)
  clear hc hv hp hf hNW hN
  go_enter Try.func11, Try.ntmps11
  go_wp2_with fail
  refine (rValid_any Wn Hn M B nb cb ao XB YB _ hn (HC.out.keep (by go_grown))).mono ?_
  rw [HV.out]
  rintro e w1 ⟨rfl, hb⟩
  have HB1 : Hid (Below w.heap.size w w1) := Lib.hid (Below.trans (by go_grown) (hb.mono (by simp)))
  have KG1 : Hid (w1.heap[w.heap.size]? = some (.cells #[.int .i64 Wn, .int .i64 Hn, .int .i64 M, .int .i64 B, .slice ao nb cb] 24 (0, 0))) := Lib.hid ((hb.block _ (by simp)).trans (heap_alloc_new w _))
  have hz1 : w.heap.size < w1.heap.size := by have := hb.size; simp at this; omega
  clear hb
  obtain ⟨g0, g1⟩ : w1.cell? ⟨w.heap.size, 0, none⟩ = some (.int .i64 Wn) ∧ w1.cell? ⟨w.heap.size, 1, none⟩ = some (.int .i64 Hn) := ⟨cell_of_blk KG1.out rfl, cell_of_blk KG1.out rfl⟩
  go_wp2_with fail
  clear g0 g1
  go_loopg [7, 35] np (fun gg v7 v35 wr => ∃ k : Nat, v35 = .int .i64 k ∧ k ≤ np ∧ Hid (np - k ≤ gg) ∧ Hid (∃ cnt, cnt ≤ k ∧ PTS wr w1.heap.size v7 Wn Hn (blkN XB YB nb) cnt) ∧ Hid (Below w1.heap.size w1 wr))
  case atStart => exact ⟨0, rfl, Nat.zero_le _, Lib.hid (Nat.le_refl _), Lib.hid ⟨0, Nat.le_refl _, fun _ => none, fun _ => 0, fun _ => 0, fun _ _ => 0, fun _ _ => 0, World.ownsRow_nil _ _ _ _, fun j hj => by omega⟩, Lib.hid (Below.refl _ _)⟩
  case round =>
    obtain ⟨k, rfl, hk, HG, HPT, HB⟩ := hrel
    have HGG : Hid (np - k ≤ gk) := Lib.hid HG.out
    clear HG
    have hz := HB.out.size
    by_cases hlt : k < np
    case neg =>
      obtain rfl : np = k := by omega
      have hlt2 : ¬ (np : Int) < np := by omega
      obtain ⟨cnt, hck, hpt⟩ := HPT.out
      obtain ⟨sa, cq, PA, N', C', X, Y, rfl, hcq, hps, hall⟩ := hpt.out
      have HPS := Lib.hid hps
      have HALL := Lib.hid hall
      have HBw : Hid (Below w.heap.size w wr) := Lib.hid (HB1.out.trans (HB.out.mono (Nat.le_of_lt hz1)))
      have KGr : Hid (wr.heap[w.heap.size]? = some (.cells #[.int .i64 Wn, .int .i64 Hn, .int .i64 M, .int .i64 B, .slice ao nb cb] 24 (0, 0))) := Lib.hid ((HB.out.block _ hz1).trans KG1.out)
      obtain ⟨g0, g1, g2, g3, g4⟩ : wr.cell? ⟨w.heap.size, 0, none⟩ = some (.int .i64 Wn) ∧ wr.cell? ⟨w.heap.size, 1, none⟩ = some (.int .i64 Hn) ∧ wr.cell? ⟨w.heap.size, 2, none⟩ = some (.int .i64 M) ∧ wr.cell? ⟨w.heap.size, 3, none⟩ = some (.int .i64 B) ∧ wr.cell? ⟨w.heap.size, 4, none⟩ = some (.slice ao nb cb) := ⟨cell_of_blk KGr.out rfl, cell_of_blk KGr.out rfl, cell_of_blk KGr.out rfl, cell_of_blk KGr.out rfl, cell_of_blk KGr.out rfl⟩
      clear hpt hps hall HPT HB
      go_wp2_with fail
      refine (bundled_any Wn Hn M B nb cb cnt cq ao sa XB YB PA N' C' X Y _ HV.out (by omega) hcq (fun j hj => ⟨(HALL.out j hj).1, by have := (HALL.out j hj).2; omega⟩) hn (HC.out.keep HBw.out) HPS.out).mono ?_
      rintro e w2 ⟨rfl, hb⟩
      have HB2 : Hid (Below w.heap.size w w2) := Lib.hid (HBw.out.trans (hb.mono HBw.out.size))
      clear hb g0 g1 g2 g3 g4 KGr HPS HALL HBw
      go_wp2_with fail
      refine (guided_any _).mono ?_
      rintro e w3 ⟨rfl, hb⟩
      have HB3 : Hid (Below w.heap.size w w3) := Lib.hid (HB2.out.trans (hb.mono HB2.out.size))
      clear hb
      go_wp2_with fail
      refine bodyPost_ret (v := .bool true) (by simp [results, Try.results11, go_sem]) rfl ⟨rfl, HB3.out⟩
    have hlt2 : (k : Int) < np := by omega
    obtain ⟨bp, op, hpe, hcell⟩ := (HP.out.keep (HB1.out.trans (HB.out.mono (Nat.le_of_lt hz1)))) (by omega)
    subst hpe
    obtain ⟨⟨c0, c1⟩, c2, c3⟩ := hcell k hlt
    obtain ⟨fx, hfx⟩ : ∃ z, FX k = z := ⟨_, rfl⟩
    obtain ⟨fy, hfy⟩ : ∃ z, FY k = z := ⟨_, rfl⟩
    obtain ⟨tx, htx⟩ : ∃ z, TX_ k = z := ⟨_, rfl⟩
    obtain ⟨ty, hty⟩ : ∃ z, TY k = z := ⟨_, rfl⟩
    rw [hfx] at c0
    rw [hfy] at c1
    rw [htx] at c2
    rw [hty, show op + k * 4 + 2 + 1 = op + k * 4 + 3 by omega] at c3
    clear hcell hfx hfy htx hty
    obtain ⟨wq, hwq⟩ : ∃ z, z = wr.alloc (.cells #[.int .i64 fx, .int .i64 fy, .int .i64 tx, .int .i64 ty] 61) := ⟨_, rfl⟩
    obtain ⟨bq, hbq⟩ : ∃ z, z = wr.heap.size := ⟨_, rfl⟩
    have hcq : Below wr.heap.size wr wq := by rw [hwq]; exact bal (Below.refl _ _) _
    have KQq : Hid (wq.heap[bq]? = some (.cells #[.int .i64 fx, .int .i64 fy, .int .i64 tx, .int .i64 ty] 61 (0, 0))) := Lib.hid (by rw [hwq, hbq]; exact heap_alloc_new wr _)
    have hzq : bq < wq.heap.size := by rw [hwq]; simp; omega
    obtain ⟨cnt, hck, hpt⟩ := HPT.out
    have HUB : Hid (∀ g, u7.ownBlock = some g → w1.heap.size ≤ g ∧ g < wr.heap.size) := Lib.hid (fun g hg => by
      obtain ⟨PA, N', C', X, Y, o1, _⟩ := hpt
      exact o1.lt g hg)
    have PTq := Lib.hid (hpt.keep hcq)
    have HBq : Hid (Below w1.heap.size w1 wq) := Lib.hid (HB.out.trans (hcq.mono hz))
    have hq1 : w1.heap.size ≤ bq := by omega
    have HWQ := Lib.hid hwq
    have HBQ := Lib.hid hbq
    have HUQ : Hid (∀ g, u7.ownBlock = some g → w1.heap.size ≤ g ∧ g < bq) := Lib.hid (fun g hg => by have := HUB.out g hg; omega)
    have KGq : Hid (wq.heap[w.heap.size]? = some (.cells #[.int .i64 Wn, .int .i64 Hn, .int .i64 M, .int .i64 B, .slice ao nb cb] 24 (0, 0))) := Lib.hid ((HBq.out.block _ hz1).trans KG1.out)
    clear hcq hwq hbq hpt HPT HB HUB hz
    go_upto_region 7 with fail
    rw [← HBQ.out, ← HWQ.out]
    clear HBQ HWQ c0 c1 c2 c3
    obtain ⟨g0, g1, g2, g3, g4⟩ : wq.cell? ⟨w.heap.size, 0, none⟩ = some (.int .i64 Wn) ∧ wq.cell? ⟨w.heap.size, 1, none⟩ = some (.int .i64 Hn) ∧ wq.cell? ⟨w.heap.size, 2, none⟩ = some (.int .i64 M) ∧ wq.cell? ⟨w.heap.size, 3, none⟩ = some (.int .i64 B) ∧ wq.cell? ⟨w.heap.size, 4, none⟩ = some (.slice ao nb cb) := ⟨cell_of_blk KGq.out rfl, cell_of_blk KGq.out rfl, cell_of_blk KGq.out rfl, cell_of_blk KGq.out rfl, cell_of_blk KGq.out rfl⟩
    obtain ⟨p0, p1, p2, p3⟩ : wq.cell? ⟨bq, 0, none⟩ = some (.int .i64 fx) ∧ wq.cell? ⟨bq, 1, none⟩ = some (.int .i64 fy) ∧ wq.cell? ⟨bq, 2, none⟩ = some (.int .i64 tx) ∧ wq.cell? ⟨bq, 3, none⟩ = some (.int .i64 ty) := ⟨cell_of_blk KQq.out rfl, cell_of_blk KQq.out rfl, cell_of_blk KQq.out rfl, cell_of_blk KQq.out rfl⟩
    go_wp2_with fail
    refine (tOn_any Wn Hn M B fx fy (.slice ao nb cb) rfl _).mono ?_
    obtain ⟨b0, hb0⟩ : ∃ z, onB (Wn : Int) (Hn : Int) fx fy = z := ⟨_, rfl⟩
    rw [hb0]
    rintro e wA ⟨rfl, hb⟩
    have KQA : Hid (wA.heap[bq]? = some (.cells #[.int .i64 fx, .int .i64 fy, .int .i64 tx, .int .i64 ty] 61 (0, 0))) := Lib.hid ((hb.block _ hzq).trans KQq.out)
    have PTA := Lib.hid (PTq.out.keep hb)
    have HBA : Hid (Below w1.heap.size w1 wA) := Lib.hid (HBq.out.trans (hb.mono (by omega)))
    have KGA : Hid (wA.heap[w.heap.size]? = some (.cells #[.int .i64 Wn, .int .i64 Hn, .int .i64 M, .int .i64 B, .slice ao nb cb] 24 (0, 0))) := Lib.hid ((HBA.out.block _ hz1).trans KG1.out)
    have hzA : bq < wA.heap.size := by have := hb.size; omega
    clear hb KQq PTq HBq KGq hzq
    try clear g0 g1 g2 g3 g4 p0 p1 p2 p3
    cases b0 with
    | false =>
      go_wp2_with fail
      go_roundg (np - (k + 1))
      case measure => have := HGG.out; omega
      case rel => exact ⟨k + 1, by go_num, by omega, Lib.hid (Nat.le_refl _), Lib.hid ⟨cnt, by omega, PTA.out⟩, HBA⟩
    | true =>
    obtain ⟨g0, g1, g2, g3, g4⟩ : wA.cell? ⟨w.heap.size, 0, none⟩ = some (.int .i64 Wn) ∧ wA.cell? ⟨w.heap.size, 1, none⟩ = some (.int .i64 Hn) ∧ wA.cell? ⟨w.heap.size, 2, none⟩ = some (.int .i64 M) ∧ wA.cell? ⟨w.heap.size, 3, none⟩ = some (.int .i64 B) ∧ wA.cell? ⟨w.heap.size, 4, none⟩ = some (.slice ao nb cb) := ⟨cell_of_blk KGA.out rfl, cell_of_blk KGA.out rfl, cell_of_blk KGA.out rfl, cell_of_blk KGA.out rfl, cell_of_blk KGA.out rfl⟩
    obtain ⟨p0, p1, p2, p3⟩ : wA.cell? ⟨bq, 0, none⟩ = some (.int .i64 fx) ∧ wA.cell? ⟨bq, 1, none⟩ = some (.int .i64 fy) ∧ wA.cell? ⟨bq, 2, none⟩ = some (.int .i64 tx) ∧ wA.cell? ⟨bq, 3, none⟩ = some (.int .i64 ty) := ⟨cell_of_blk KQA.out rfl, cell_of_blk KQA.out rfl, cell_of_blk KQA.out rfl, cell_of_blk KQA.out rfl⟩
    go_wp2_with fail
    refine (tOn_any Wn Hn M B tx ty (.slice ao nb cb) rfl _).mono ?_
    obtain ⟨b1, hb1⟩ : ∃ z, onB (Wn : Int) (Hn : Int) tx ty = z := ⟨_, rfl⟩
    rw [hb1]
    rintro e wC ⟨rfl, hb⟩
    have KQC : Hid (wC.heap[bq]? = some (.cells #[.int .i64 fx, .int .i64 fy, .int .i64 tx, .int .i64 ty] 61 (0, 0))) := Lib.hid ((hb.block _ hzA).trans KQA.out)
    have PTC := Lib.hid (PTA.out.keep hb)
    have HBC : Hid (Below w1.heap.size w1 wC) := Lib.hid (HBA.out.trans (hb.mono (by omega)))
    have KGC : Hid (wC.heap[w.heap.size]? = some (.cells #[.int .i64 Wn, .int .i64 Hn, .int .i64 M, .int .i64 B, .slice ao nb cb] 24 (0, 0))) := Lib.hid ((HBC.out.block _ hz1).trans KG1.out)
    have hzC : bq < wC.heap.size := by have := hb.size; omega
    clear hb KQA PTA HBA KGA hzA
    try clear g0 g1 g2 g3 g4 p0 p1 p2 p3
    cases b1 with
    | false =>
      go_wp2_with fail
      go_roundg (np - (k + 1))
      case measure => have := HGG.out; omega
      case rel => exact ⟨k + 1, by go_num, by omega, Lib.hid (Nat.le_refl _), Lib.hid ⟨cnt, by omega, PTC.out⟩, HBC⟩
    | true =>
    have hon0 := onB_iff.1 hb0
    have hon1 := onB_iff.1 hb1
    clear hb0 hb1
    obtain ⟨g0, g1, g2, g3, g4⟩ : wC.cell? ⟨w.heap.size, 0, none⟩ = some (.int .i64 Wn) ∧ wC.cell? ⟨w.heap.size, 1, none⟩ = some (.int .i64 Hn) ∧ wC.cell? ⟨w.heap.size, 2, none⟩ = some (.int .i64 M) ∧ wC.cell? ⟨w.heap.size, 3, none⟩ = some (.int .i64 B) ∧ wC.cell? ⟨w.heap.size, 4, none⟩ = some (.slice ao nb cb) := ⟨cell_of_blk KGC.out rfl, cell_of_blk KGC.out rfl, cell_of_blk KGC.out rfl, cell_of_blk KGC.out rfl, cell_of_blk KGC.out rfl⟩
    obtain ⟨p0, p1, p2, p3⟩ : wC.cell? ⟨bq, 0, none⟩ = some (.int .i64 fx) ∧ wC.cell? ⟨bq, 1, none⟩ = some (.int .i64 fy) ∧ wC.cell? ⟨bq, 2, none⟩ = some (.int .i64 tx) ∧ wC.cell? ⟨bq, 3, none⟩ = some (.int .i64 ty) := ⟨cell_of_blk KQC.out rfl, cell_of_blk KQC.out rfl, cell_of_blk KQC.out rfl, cell_of_blk KQC.out rfl⟩
    go_wp2_with fail
    refine (tRoute_any Wn Hn M B fx fy tx ty nb cb ao XB YB _ HV.out (by have := HNN.out.1; omega) (HC.out.keep (HB1.out.trans (HBC.out.mono (Nat.le_of_lt hz1))))).mono ?_
    rintro e wD ⟨v, c, re, rfl, hb, hcase⟩
    have HCS := Lib.hid hcase
    have hzCD : bq < wC.heap.size := hzC
    have hsCD := hb.size
    have KQD : Hid (wD.heap[bq]? = some (.cells #[.int .i64 fx, .int .i64 fy, .int .i64 tx, .int .i64 ty] 61 (0, 0))) := Lib.hid ((hb.block _ hzC).trans KQC.out)
    have PTD := Lib.hid (PTC.out.keep hb)
    have HBD : Hid (Below w1.heap.size w1 wD) := Lib.hid (HBC.out.trans (hb.mono (by omega)))
    have KGD : Hid (wD.heap[w.heap.size]? = some (.cells #[.int .i64 Wn, .int .i64 Hn, .int .i64 M, .int .i64 B, .slice ao nb cb] 24 (0, 0))) := Lib.hid ((HBD.out.block _ hz1).trans KG1.out)
    have hzD : bq < wD.heap.size := by have := hb.size; omega
    clear hb KQC PTC HBC KGC hzC
    try clear g0 g1 g2 g3 g4 p0 p1 p2 p3
    obtain ⟨g0, g1, g2, g3, g4⟩ : wD.cell? ⟨w.heap.size, 0, none⟩ = some (.int .i64 Wn) ∧ wD.cell? ⟨w.heap.size, 1, none⟩ = some (.int .i64 Hn) ∧ wD.cell? ⟨w.heap.size, 2, none⟩ = some (.int .i64 M) ∧ wD.cell? ⟨w.heap.size, 3, none⟩ = some (.int .i64 B) ∧ wD.cell? ⟨w.heap.size, 4, none⟩ = some (.slice ao nb cb) := ⟨cell_of_blk KGD.out rfl, cell_of_blk KGD.out rfl, cell_of_blk KGD.out rfl, cell_of_blk KGD.out rfl, cell_of_blk KGD.out rfl⟩
    obtain ⟨p0, p1, p2, p3⟩ : wD.cell? ⟨bq, 0, none⟩ = some (.int .i64 fx) ∧ wD.cell? ⟨bq, 1, none⟩ = some (.int .i64 fy) ∧ wD.cell? ⟨bq, 2, none⟩ = some (.int .i64 tx) ∧ wD.cell? ⟨bq, 3, none⟩ = some (.int .i64 ty) := ⟨cell_of_blk KQD.out rfl, cell_of_blk KQD.out rfl, cell_of_blk KQD.out rfl, cell_of_blk KQD.out rfl⟩
    go_wp2_with fail
    refine (tFar_any Wn Hn N M B tx ty nb cb ao XB YB _ HV.out HNN.out.2 (HC.out.keep (HB1.out.trans (HBD.out.mono (Nat.le_of_lt hz1))))).mono ?_
    rintro e wE ⟨ac, mm, ccf, ff, rfl, hb, hfar⟩
    have HFA := Lib.hid hfar
    have HBDE := Lib.hid hb
    have KQE : Hid (wE.heap[bq]? = some (.cells #[.int .i64 fx, .int .i64 fy, .int .i64 tx, .int .i64 ty] 61 (0, 0))) := Lib.hid ((hb.block _ hzD).trans KQD.out)
    have PTE := Lib.hid (PTD.out.keep hb)
    have HBE : Hid (Below w1.heap.size w1 wE) := Lib.hid (HBD.out.trans (hb.mono (by omega)))
    have KGE : Hid (wE.heap[w.heap.size]? = some (.cells #[.int .i64 Wn, .int .i64 Hn, .int .i64 M, .int .i64 B, .slice ao nb cb] 24 (0, 0))) := Lib.hid ((HBE.out.block _ hz1).trans KG1.out)
    have hzE : bq < wE.heap.size := by have := hb.size; omega
    clear hb KQD PTD HBD KGD hzD
    try clear g0 g1 g2 g3 g4 p0 p1 p2 p3
    clear hcase hfar
    rcases HCS.out with rfl | ⟨rfl, hto, hno⟩ | ⟨rfl, hto, Fr, L, brt, crt, X, Y, hFr, rfl, hbr, hxyr, hch, hL100, a0, a1, a2, a3, hco, hfr⟩
    · clear HCS HFA HBDE
      go_wp2_with fail
      go_roundg (np - (k + 1))
      case measure => have := HGG.out; omega
      case rel => exact ⟨k + 1, by go_num, by omega, Lib.hid (Nat.le_refl _), Lib.hid ⟨cnt, by omega, PTE.out⟩, HBE⟩
    · obtain ⟨rfl, rfl, G, hG, hint⟩ := HFA.out hto
      have hm1 := hno G hG
      have hfw : 0 ≤ fy * (Wn : Int) ∧ fy * (Wn : Int) ≤ 900 := ⟨Int.mul_nonneg (by omega) (by omega), Int.le_trans (Int.mul_le_mul (show fy ≤ 30 by omega) (show (Wn : Int) ≤ 30 by omega) (by omega) (by omega)) (by decide)⟩
      obtain ⟨xn, hxn⟩ : ∃ z : Nat, fx = z := ⟨fx.toNat, by omega⟩
      obtain ⟨yn, hyn⟩ : ∃ z : Nat, fy = z := ⟨fy.toNat, by omega⟩
      obtain ⟨j, hj⟩ : ∃ z, z = yn * Wn + xn := ⟨_, rfl⟩
      obtain ⟨hjN, hjm, hjd⟩ := idx_dm (x := xn) (y := yn) HNN.out.1 (by omega) (by omega)
      rw [← hj] at hjN hjm hjd
      have hj1 : ((j % Wn : Nat) : Int) = fx := by rw [hjm]; exact hxn.symm
      have hj2 : ((j / Wn : Nat) : Int) = fy := by rw [hjd]; exact hyn.symm
      have hjj : (j : Int) = fy * (Wn : Int) + fx := by rw [hj, hyn, hxn, Int.natCast_add, Int.natCast_mul]
      clear hxn hyn hj hjm hjd
      have q1 : IntKind.i64.wrap (fy * (Wn : Int)) = fy * (Wn : Int) := by rw [IntKind.wrap_i64]; omega
      have q2 : IntKind.i64.wrap (fy * (Wn : Int) + fx) = (j : Int) := by rw [← hjj, IntKind.wrap_i64]; omega
      have hj0 : (0 : Int) ≤ j := by omega
      have hjN2 : (j : Int) < (mm : Int) := by omega
      obtain ⟨baf, oaf, hae, hi0⟩ := hint (by omega)
      subst hae
      have f0 : wE.cell? ⟨baf, oaf + j, none⟩ = some (.int .i64 (farS G B tx ty ((j % Wn : Nat) : Int) ((j / Wn : Nat) : Int))) := hi0 j hjN
      rw [hj1, hj2, hm1] at f0
      obtain ⟨g0, g1, g2, g3, g4⟩ : wE.cell? ⟨w.heap.size, 0, none⟩ = some (.int .i64 Wn) ∧ wE.cell? ⟨w.heap.size, 1, none⟩ = some (.int .i64 Hn) ∧ wE.cell? ⟨w.heap.size, 2, none⟩ = some (.int .i64 M) ∧ wE.cell? ⟨w.heap.size, 3, none⟩ = some (.int .i64 B) ∧ wE.cell? ⟨w.heap.size, 4, none⟩ = some (.slice ao nb cb) := ⟨cell_of_blk KGE.out rfl, cell_of_blk KGE.out rfl, cell_of_blk KGE.out rfl, cell_of_blk KGE.out rfl, cell_of_blk KGE.out rfl⟩
      obtain ⟨p0, p1, p2, p3⟩ : wE.cell? ⟨bq, 0, none⟩ = some (.int .i64 fx) ∧ wE.cell? ⟨bq, 1, none⟩ = some (.int .i64 fy) ∧ wE.cell? ⟨bq, 2, none⟩ = some (.int .i64 tx) ∧ wE.cell? ⟨bq, 3, none⟩ = some (.int .i64 ty) := ⟨cell_of_blk KQE.out rfl, cell_of_blk KQE.out rfl, cell_of_blk KQE.out rfl, cell_of_blk KQE.out rfl⟩
      clear HCS HFA HBDE hno hG hint hm1 hi0 hjj hj1 hj2 hfw
      go_wp2_with fail
      go_roundg (np - (k + 1))
      case measure => have := HGG.out; omega
      case rel => exact ⟨k + 1, by go_num, by omega, Lib.hid (Nat.le_refl _), Lib.hid ⟨cnt, by omega, PTE.out⟩, HBE⟩
    obtain ⟨rfl, rfl, G, hG, hint⟩ := HFA.out hto
    have hGF := hG.uniq hFr
    subst hGF
    have HXR := Lib.hid (hxyr.keep HBDE.out)
    have HIE := Lib.hid hint
    have hR2 := chE_R2 (by omega) (by omega) hch
    have HCH := Lib.hid hch
    have HR2 := Lib.hid hR2
    have HEND := Lib.hid (And.intro a0 (And.intro a1 (And.intro a2 (And.intro a3 (And.intro hco hfr)))))
    have HGC := Lib.hid hG
    have hbrE : brt < wE.heap.size := by
      obtain ⟨b', o', e', hc'⟩ := HXR.out (by omega)
      cases e'
      exact World.block_lt_of_cell? _ _ (hc' 0 (by omega)).1
    have hfw : 0 ≤ fy * (Wn : Int) ∧ fy * (Wn : Int) ≤ 900 := ⟨Int.mul_nonneg (by omega) (by omega), Int.le_trans (Int.mul_le_mul (show fy ≤ 30 by omega) (show (Wn : Int) ≤ 30 by omega) (by omega) (by omega)) (by decide)⟩
    obtain ⟨xn, hxn⟩ : ∃ z : Nat, fx = z := ⟨fx.toNat, by omega⟩
    obtain ⟨yn, hyn⟩ : ∃ z : Nat, fy = z := ⟨fy.toNat, by omega⟩
    obtain ⟨j, hj⟩ : ∃ z, z = yn * Wn + xn := ⟨_, rfl⟩
    obtain ⟨hjN, hjm, hjd⟩ := idx_dm (x := xn) (y := yn) HNN.out.1 (by omega) (by omega)
    rw [← hj] at hjN hjm hjd
    have hj1 : ((j % Wn : Nat) : Int) = fx := by rw [hjm]; exact hxn.symm
    have hj2 : ((j / Wn : Nat) : Int) = fy := by rw [hjd]; exact hyn.symm
    have hjj : (j : Int) = fy * (Wn : Int) + fx := by rw [hj, hyn, hxn, Int.natCast_add, Int.natCast_mul]
    clear hxn hyn hj hjm hjd
    have q1 : IntKind.i64.wrap (fy * (Wn : Int)) = fy * (Wn : Int) := by rw [IntKind.wrap_i64]; omega
    have q2 : IntKind.i64.wrap (fy * (Wn : Int) + fx) = (j : Int) := by rw [← hjj, IntKind.wrap_i64]; omega
    have hj0 : (0 : Int) ≤ j := by omega
    have hjN2 : (j : Int) < (mm : Int) := by omega
    obtain ⟨baf, oaf, hae, hi0⟩ := hint (by omega)
    subst hae
    have hfj : farS G B tx ty ((j % Wn : Nat) : Int) ((j / Wn : Nat) : Int) = c := by rw [hj1, hj2]; exact hfr
    have HFJ := Lib.hid hfj
    have hbr2 : bq < brt := by omega
    have HJJ := Lib.hid (And.intro hjj (And.intro q1 (And.intro q2 (And.intro hj0 hjN2))))
    clear HCS HFA HBDE hxyr hch hco hfr hint hG hFr a0 a1 a2 a3 hfj hi0 hR2 hjj q1 q2 hj0 hjN2 hj1 hj2 hfw
    obtain ⟨g0, g1, g2, g3, g4⟩ : wE.cell? ⟨w.heap.size, 0, none⟩ = some (.int .i64 Wn) ∧ wE.cell? ⟨w.heap.size, 1, none⟩ = some (.int .i64 Hn) ∧ wE.cell? ⟨w.heap.size, 2, none⟩ = some (.int .i64 M) ∧ wE.cell? ⟨w.heap.size, 3, none⟩ = some (.int .i64 B) ∧ wE.cell? ⟨w.heap.size, 4, none⟩ = some (.slice ao nb cb) := ⟨cell_of_blk KGE.out rfl, cell_of_blk KGE.out rfl, cell_of_blk KGE.out rfl, cell_of_blk KGE.out rfl, cell_of_blk KGE.out rfl⟩
    obtain ⟨p0, p1, p2, p3⟩ : wE.cell? ⟨bq, 0, none⟩ = some (.int .i64 fx) ∧ wE.cell? ⟨bq, 1, none⟩ = some (.int .i64 fy) ∧ wE.cell? ⟨bq, 2, none⟩ = some (.int .i64 tx) ∧ wE.cell? ⟨bq, 3, none⟩ = some (.int .i64 ty) := ⟨cell_of_blk KQE.out rfl, cell_of_blk KQE.out rfl, cell_of_blk KQE.out rfl, cell_of_blk KQE.out rfl⟩
    go_wp2_with fail
    obtain ⟨fA, hfA⟩ : ∃ f : Nat → Int, f = fun j => farS G B tx ty ((j % Wn : Nat) : Int) ((j / Wn : Nat) : Int) := ⟨_, rfl⟩
    have HIE2 : Ints wE (some ⟨baf, oaf, none⟩) mm fA := by rw [hfA]; exact HIE.out
    have hfAj : fA j = c := by rw [hfA]; exact HFJ.out
    clear hfA
    have hL9 : L ≤ 900 := by omega
    have hXBE : XYs wE ao nb XB YB := HC.out.keep (HB1.out.trans (HBE.out.mono (Nat.le_of_lt hz1)))
    have hcon := tCheapest_any Wn Hn M B fx fy tx ty c nb cb L crt mm ccf ao (some ⟨brt, 0, none⟩) (some ⟨baf, oaf, none⟩) XB YB X Y fA wE HV.out HCH.out hn hXBE HXR.out HR2.out hL9 HEND.out.1 HEND.out.2.1 HEND.out.2.2.1 HEND.out.2.2.2.1 HEND.out.2.2.2.2.1 HIE2 j HJJ.out.1 hjN hfAj
    clear HIE2 hfAj hL9 hXBE
    refine hcon.mono ?_
    clear hcon
    rintro e wF ⟨rfl, hb⟩
    have HXRF := Lib.hid (HXR.out.keep hb)
    have hbrF : brt < wF.heap.size := by have := hb.size; omega
    have KQF : Hid (wF.heap[bq]? = some (.cells #[.int .i64 fx, .int .i64 fy, .int .i64 tx, .int .i64 ty] 61 (0, 0))) := Lib.hid ((hb.block _ hzE).trans KQE.out)
    have PTF := Lib.hid (PTE.out.keep hb)
    have HBF : Hid (Below w1.heap.size w1 wF) := Lib.hid (HBE.out.trans (hb.mono (by omega)))
    have KGF : Hid (wF.heap[w.heap.size]? = some (.cells #[.int .i64 Wn, .int .i64 Hn, .int .i64 M, .int .i64 B, .slice ao nb cb] 24 (0, 0))) := Lib.hid ((HBF.out.block _ hz1).trans KG1.out)
    have hzF : bq < wF.heap.size := by have := hb.size; omega
    clear hb KQE PTE HBE KGE hzE
    try clear g0 g1 g2 g3 g4 p0 p1 p2 p3
    obtain ⟨g0, g1, g2, g3, g4⟩ : wF.cell? ⟨w.heap.size, 0, none⟩ = some (.int .i64 Wn) ∧ wF.cell? ⟨w.heap.size, 1, none⟩ = some (.int .i64 Hn) ∧ wF.cell? ⟨w.heap.size, 2, none⟩ = some (.int .i64 M) ∧ wF.cell? ⟨w.heap.size, 3, none⟩ = some (.int .i64 B) ∧ wF.cell? ⟨w.heap.size, 4, none⟩ = some (.slice ao nb cb) := ⟨cell_of_blk KGF.out rfl, cell_of_blk KGF.out rfl, cell_of_blk KGF.out rfl, cell_of_blk KGF.out rfl, cell_of_blk KGF.out rfl⟩
    obtain ⟨p0, p1, p2, p3⟩ : wF.cell? ⟨bq, 0, none⟩ = some (.int .i64 fx) ∧ wF.cell? ⟨bq, 1, none⟩ = some (.int .i64 fy) ∧ wF.cell? ⟨bq, 2, none⟩ = some (.int .i64 tx) ∧ wF.cell? ⟨bq, 3, none⟩ = some (.int .i64 ty) := ⟨cell_of_blk KQF.out rfl, cell_of_blk KQF.out rfl, cell_of_blk KQF.out rfl, cell_of_blk KQF.out rfl⟩
    go_wp2_with fail
    refine (pIsProof_ok Wn Hn M B tx ty mm nb cb nf cf ao af XB YB pf _ hnf (HC.out.keep (HB1.out.trans (HBF.out.mono (Nat.le_of_lt hz1)))) (HF.out.keep (HB1.out.trans (HBF.out.mono (Nat.le_of_lt hz1)))) HV.out hto HNN.out.2).mono ?_
    obtain ⟨an, han⟩ : ∃ z, anS nf ((Wn : Int) * (Hn : Int)) pf = z := ⟨_, rfl⟩
    obtain ⟨pr, hpr⟩ : ∃ z, prS (Wn : Int) (Hn : Int) M tx ty (blkN XB YB nb) pf mm = z := ⟨_, rfl⟩
    rw [han, hpr]
    rintro e wG ⟨rfl, hb⟩
    have HXRG := Lib.hid (HXRF.out.keep hb)
    have hbrG : brt < wG.heap.size := by have := hb.size; omega
    have KQG : Hid (wG.heap[bq]? = some (.cells #[.int .i64 fx, .int .i64 fy, .int .i64 tx, .int .i64 ty] 61 (0, 0))) := Lib.hid ((hb.block _ hzF).trans KQF.out)
    have PTG := Lib.hid (PTF.out.keep hb)
    have HBG : Hid (Below w1.heap.size w1 wG) := Lib.hid (HBF.out.trans (hb.mono (by omega)))
    have KGG : Hid (wG.heap[w.heap.size]? = some (.cells #[.int .i64 Wn, .int .i64 Hn, .int .i64 M, .int .i64 B, .slice ao nb cb] 24 (0, 0))) := Lib.hid ((HBG.out.block _ hz1).trans KG1.out)
    have hzG : bq < wG.heap.size := by have := hb.size; omega
    clear hb KQF PTF HBF KGF hzF
    try clear g0 g1 g2 g3 g4 p0 p1 p2 p3
    clear HXR HXRF hbrE hbrF HIE
    by_cases his : (an && pr) = true
    case neg =>
      have his' : (an && pr) = false := by simpa using his
      rw [his']
      clear his his' han hpr
      go_upto_region 21 with fail
      refine wp_region_lit ?_
      refine wpList_step (fun K hK => ?_); go_simp; refine hK _ _ ?_; clear hK K
      refine wpList_step (fun K hK => ?_); go_simp; refine hK _ _ ?_; clear hK K
      refine wpList_step (fun K hK => ?_); go_simp; refine hK _ _ ?_; clear hK K
      obtain ⟨PA, N', C', X', Y', hown, hall⟩ := PTG.out
      have hNB : (wG.alloc (.cells #[.slice (some ⟨brt, 0, none⟩) (L + 1) crt] 22)).heap[wG.heap.size]? = some (.cells #[.slice (some ⟨brt, 0, none⟩) (L + 1) crt] 22 (0, 0)) := heap_alloc_new wG _
      refine wpList_append_own_at _ rfl _ _ 44 rfl w1.heap.size 22 i0 _ 1 24 Try.underlying44 HI.out.1 HI.out.2.1 HI.out.2.2.1 HI.out.2.2.2 (by rfl) (by decide) u7 cnt _ (by rfl) (hown.alloc _) ⟨wG.heap.size, 0, none⟩ 1 1 [.slice (some ⟨brt, 0, none⟩) (L + 1) crt] (by rfl) rfl (fun j u hu => World.news_of_block (cs := #[.slice (some ⟨brt, 0, none⟩) (L + 1) crt]) hNB j u hu) (by intro u hu; simp only [List.mem_cons, List.not_mem_nil, or_false] at hu; rcases hu with rfl; rfl) (by unfold maxLen; omega) (by omega) (by simp; have := HBG.out.size; omega) ?_
      intro v' w9 hown' hgrow hnil hat
      have hszG := HBG.out.size
      have HB9 : Hid (Below w1.heap.size w1 w9) := Lib.hid ((HBG.out.alloc hszG _).grown hgrow (by simp; omega) (fun q hq => (HUQ.out q hq).1))
      have hkeepA : ∀ j, j < cnt → (∃ b o, PA j = some ⟨b, o, none⟩ ∧ u7.ownBlock ≠ some b ∧ b < (wG.alloc (.cells #[.slice (some ⟨brt, 0, none⟩) (L + 1) crt] 22)).heap.size) ∧ XYs (wG.alloc (.cells #[.slice (some ⟨brt, 0, none⟩) (L + 1) crt] 22)) (PA j) (N' j) (X' j) (Y' j) ∧ chE Wn Hn (blkN XB YB nb) (X' j) (Y' j) (N' j) = 0 ∧ N' j ≤ 100 := fun j hj => by
        obtain ⟨⟨b, o, e1, e2, e3⟩, h3, h4⟩ := hall j hj
        exact ⟨⟨b, o, e1, e2, by simp; omega⟩, h3.keep (bal (Below.refl _ _) _), h4⟩
      have PT9 : Hid (PTS w9 w1.heap.size v' Wn Hn (blkN XB YB nb) (cnt + 1)) := Lib.hid (PTS.add hkeepA hown' hgrow hat (fun e => by have := (HUQ.out brt e).2; omega) (by simp; omega) (HXRG.out.keep (bal (Below.refl _ _) _)) HCH.out (by omega))
      clear hown' hgrow hnil hat hNB hall hown hkeepA
      refine wpList_step (fun K hK => ?_); go_simp; refine hK _ _ ?_; clear hK K
      refine wpList_nil ?_
      go_wp2_with fail
      go_roundg (np - (k + 1))
      case measure => have := HGG.out; omega
      case rel => exact ⟨k + 1, by go_num, by omega, Lib.hid (Nat.le_refl _), Lib.hid ⟨cnt + 1, by omega, PT9.out⟩, HB9⟩
    obtain ⟨rfl, rfl⟩ : an = true ∧ pr = true := by simpa using his
    clear his
    have hnfN : nf = mm := by
      unfold anS at han
      simp only [Bool.and_eq_true, decide_eq_true_eq] at han
      have := HNN.out.2
      have h := han.1
      omega
    have hlow : pf j ≤ c := by
      have h := far_low (i := j) (by have := HNN.out.1; exact this) (by omega) hpr hto HGC.out (by rw [HFJ.out]; have := (coN_le (M := M) (B := B) (X := X) (Y := Y) ⟨by omega, by omega⟩ ⟨by omega, by omega⟩ L).1; have := HEND.out.2.2.2.2.1; omega)
      rw [HFJ.out] at h
      exact h
    have hlow2 : ¬ c < pf j := by omega
    obtain ⟨bz, oz, hze, hzc⟩ := (HF.out.keep (HB1.out.trans (HBG.out.mono (Nat.le_of_lt hz1)))) (by omega)
    subst hze
    have z0 := hzc j (by omega)
    obtain ⟨pj, hpj⟩ : ∃ z, pf j = z := ⟨_, rfl⟩
    rw [hpj] at z0 hlow2
    subst hnfN
    obtain ⟨g0, g1, g2, g3, g4⟩ : wG.cell? ⟨w.heap.size, 0, none⟩ = some (.int .i64 Wn) ∧ wG.cell? ⟨w.heap.size, 1, none⟩ = some (.int .i64 Hn) ∧ wG.cell? ⟨w.heap.size, 2, none⟩ = some (.int .i64 M) ∧ wG.cell? ⟨w.heap.size, 3, none⟩ = some (.int .i64 B) ∧ wG.cell? ⟨w.heap.size, 4, none⟩ = some (.slice ao nb cb) := ⟨cell_of_blk KGG.out rfl, cell_of_blk KGG.out rfl, cell_of_blk KGG.out rfl, cell_of_blk KGG.out rfl, cell_of_blk KGG.out rfl⟩
    obtain ⟨p0, p1, p2, p3⟩ : wG.cell? ⟨bq, 0, none⟩ = some (.int .i64 fx) ∧ wG.cell? ⟨bq, 1, none⟩ = some (.int .i64 fy) ∧ wG.cell? ⟨bq, 2, none⟩ = some (.int .i64 tx) ∧ wG.cell? ⟨bq, 3, none⟩ = some (.int .i64 ty) := ⟨cell_of_blk KQG.out rfl, cell_of_blk KQG.out rfl, cell_of_blk KQG.out rfl, cell_of_blk KQG.out rfl⟩
    obtain ⟨hjj, q1, q2, hj0, hjN2⟩ := HJJ.out
    have ej : fy * (Wn : Int) + fx = (j : Int) := hjj.symm
    have q3 : IntKind.i64.wrap (j : Int) = (j : Int) := by rw [← ej]; rw [ej] at q2 ⊢; exact q2
    clear hjj q2
    clear hzc hlow hpj han hpr
    rw [show erS true = 0 from rfl]
    go_upto_region 21 with fail
    refine wp_region_lit ?_
    refine wpList_step (fun K hK => ?_); go_simp; refine hK _ _ ?_; clear hK K
    refine wpList_step (fun K hK => ?_); go_simp; refine hK _ _ ?_; clear hK K
    refine wpList_step (fun K hK => ?_); go_simp; refine hK _ _ ?_; clear hK K
    obtain ⟨PA, N', C', X', Y', hown, hall⟩ := PTG.out
    have hNB : (wG.alloc (.cells #[.slice (some ⟨brt, 0, none⟩) (L + 1) crt] 22)).heap[wG.heap.size]? = some (.cells #[.slice (some ⟨brt, 0, none⟩) (L + 1) crt] 22 (0, 0)) := heap_alloc_new wG _
    refine wpList_append_own_at _ rfl _ _ 44 rfl w1.heap.size 22 i0 _ 1 24 Try.underlying44 HI.out.1 HI.out.2.1 HI.out.2.2.1 HI.out.2.2.2 (by rfl) (by decide) u7 cnt _ (by rfl) (hown.alloc _) ⟨wG.heap.size, 0, none⟩ 1 1 [.slice (some ⟨brt, 0, none⟩) (L + 1) crt] (by rfl) rfl (fun j u hu => World.news_of_block (cs := #[.slice (some ⟨brt, 0, none⟩) (L + 1) crt]) hNB j u hu) (by intro u hu; simp only [List.mem_cons, List.not_mem_nil, or_false] at hu; rcases hu with rfl; rfl) (by unfold maxLen; omega) (by omega) (by simp; have := HBG.out.size; omega) ?_
    intro v' w9 hown' hgrow hnil hat
    have hszG := HBG.out.size
    have HB9 : Hid (Below w1.heap.size w1 w9) := Lib.hid ((HBG.out.alloc hszG _).grown hgrow (by simp; omega) (fun q hq => (HUQ.out q hq).1))
    have hkeepA : ∀ j, j < cnt → (∃ b o, PA j = some ⟨b, o, none⟩ ∧ u7.ownBlock ≠ some b ∧ b < (wG.alloc (.cells #[.slice (some ⟨brt, 0, none⟩) (L + 1) crt] 22)).heap.size) ∧ XYs (wG.alloc (.cells #[.slice (some ⟨brt, 0, none⟩) (L + 1) crt] 22)) (PA j) (N' j) (X' j) (Y' j) ∧ chE Wn Hn (blkN XB YB nb) (X' j) (Y' j) (N' j) = 0 ∧ N' j ≤ 100 := fun j hj => by
      obtain ⟨⟨b, o, e1, e2, e3⟩, h3, h4⟩ := hall j hj
      exact ⟨⟨b, o, e1, e2, by simp; omega⟩, h3.keep (bal (Below.refl _ _) _), h4⟩
    have PT9 : Hid (PTS w9 w1.heap.size v' Wn Hn (blkN XB YB nb) (cnt + 1)) := Lib.hid (PTS.add hkeepA hown' hgrow hat (fun e => by have := (HUQ.out brt e).2; omega) (by simp; omega) (HXRG.out.keep (bal (Below.refl _ _) _)) HCH.out (by omega))
    clear hown' hgrow hnil hat hNB hall hown hkeepA
    refine wpList_step (fun K hK => ?_); go_simp; refine hK _ _ ?_; clear hK K
    refine wpList_nil ?_
    go_wp2_with fail
    go_roundg (np - (k + 1))
    case measure => have := HGG.out; omega
    case rel => exact ⟨k + 1, by go_num, by omega, Lib.hid (Nat.le_refl _), Lib.hid ⟨cnt + 1, by omega, PT9.out⟩, HB9⟩

theorem TopRoutes_any (W H M B : Int) (nb cb np cp nf cf : Nat) (ao pa af : Option Addr) (XB YB FX FY TX_ TY pf : Nat → Int) (w : World) (hn : nb ≤ 9223372036854775807) (hc : XYs w ao nb XB YB) (hp : PrS w pa np FX FY TX_ TY) (hnf : nf ≤ 9223372036854775807) (hf : Ints w af nf pf) :
    Calls Try.prog 11 #[.agg #[.int .i64 W, .int .i64 H, .int .i64 M, .int .i64 B, .slice ao nb cb], .slice pa np cp, .slice af nf cf] w fun e w' => e = .returned (.bool true) ∧ Below w.heap.size w w' := by
  by_cases hbad : vaG W H M B nb XB YB = false ∨ 100 < W * H ∨ 5 < np
  · exact top_out W H M B nb cb np cp nf cf ao pa af XB YB w hn hc hbad
  have hv : vaG W H M B nb XB YB = true := by
    cases h : vaG W H M B nb XB YB with
    | false => exact absurd (Or.inl h) hbad
    | true => rfl
  obtain ⟨hnum, _⟩ := vaG_num hv
  have h100 : ¬ 100 < W * H := fun h => hbad (Or.inr (Or.inl h))
  have h5 : ¬ 5 < np := fun h => hbad (Or.inr (Or.inr h))
  obtain ⟨Wn, rfl⟩ : ∃ k : Nat, W = k := ⟨W.toNat, by omega⟩
  obtain ⟨Hn, rfl⟩ : ∃ k : Nat, H = k := ⟨H.toNat, by omega⟩
  have h100' : Hn * Wn ≤ 100 := by
    have e : ((Hn * Wn : Nat) : Int) = (Wn : Int) * Hn := by rw [Int.natCast_mul, Int.mul_comm]
    omega
  exact top_main Wn Hn M B nb cb np cp nf cf ao pa af XB YB FX FY TX_ TY pf w hn hc hv h100' (by omega) hp hnf hf

end Go.Proofs.Ytkkcnhhfdicppaa
