import Derived.Test.YtldepffpafccpaaMm6
import Derived.Test.YtldepffpafccpaaBl6
namespace Go.Proofs.Ytldepffpafccpaa
open Go.RowKit Heat
/-- What came in, in its two boxes. -/
def MoreB (w : World) (g : Nat) (v0 v1 v2 : Value) (a0 a1 a2 : Int) : Prop := w.cell? ⟨g, 0, none⟩ = some v0 ∧ w.cell? ⟨g, 1, none⟩ = some v1 ∧ w.cell? ⟨g, 2, none⟩ = some v2 ∧ w.cell? ⟨g + 1, 0, none⟩ = some (.int .u8 a0) ∧ w.cell? ⟨g + 1, 1, none⟩ = some (.int .u8 a1) ∧ w.cell? ⟨g + 1, 2, none⟩ = some (.int .u8 a2)
theorem MoreB.lt {w : World} {g : Nat} {v0 v1 v2 : Value} {a0 a1 a2 : Int} (h : MoreB w g v0 v1 v2 a0 a1 a2) : g + 1 < w.heap.size := World.block_lt_of_cell? _ _ h.2.2.2.1
theorem MoreB.keep {w w1 : World} {g : Nat} {v0 v1 v2 : Value} {a0 a1 a2 : Int} (h : MoreB w g v0 v1 v2 a0 a1 a2) (hb : Below w.heap.size w w1) : MoreB w1 g v0 v1 v2 a0 a1 a2 := by
  have hl := h.lt
  obtain ⟨h0, h1, h2, h3, h4, h5⟩ := h
  exact ⟨(hb.cell (p := ⟨g, 0, none⟩) (by simp only; omega)).trans h0, (hb.cell (p := ⟨g, 1, none⟩) (by simp only; omega)).trans h1, (hb.cell (p := ⟨g, 2, none⟩) (by simp only; omega)).trans h2, (hb.cell (p := ⟨g + 1, 0, none⟩) hl).trans h3, (hb.cell (p := ⟨g + 1, 1, none⟩) hl).trans h4, (hb.cell (p := ⟨g + 1, 2, none⟩) hl).trans h5⟩
theorem MoreB.other {w : World} {g b n : Nat} {v v0 v1 v2 : Value} {a0 a1 a2 : Int} (h : MoreB w g v0 v1 v2 a0 a1 a2) (hb : g + 1 < b) : MoreB (w.setCell ⟨b, n, none⟩ v) g v0 v1 v2 a0 a1 a2 := by
  obtain ⟨h0, h1, h2, h3, h4, h5⟩ := h
  have e1 : ¬ b = g := by omega
  have e2 : ¬ b = g + 1 := by omega
  exact ⟨by go_cell, by go_cell, by go_cell, by go_cell, by go_cell, by go_cell⟩
theorem hPh_0 {N cap : Nat} {ao : Option Addr} {A : Nat → Option Addr} {l c : Nat → Nat} {F : Nat → Nat → Int} {m dap : Nat} {bo : Option Addr} {B : Nat → Int} {k fap : Nat} {co : Option Addr} {C : Nat → Int} {w : World} (hE : lsE N l F m B k C = 0) (hN : N ≤ 9223372036854775807) (hR : Rowsw w ao N A l c F) (hm : m ≤ 9223372036854775807) (hI : Ints w bo m B) (hk : k ≤ 9223372036854775807) (hJ : Ints w co k C) :
    Calls Try.prog 33 #[.agg #[.slice ao N cap], .slice bo m dap, .slice co k fap] w fun e w' => (∃ s c, e = .returned (.tuple #[.slice s N c, .int .i64 0]) ∧ Ints w' s N (phL N F B C)) ∧ Below w.heap.size w w' := by
  refine (hPhases_any N cap ao A l c F m dap bo B k fap co C w hN hR hm hI hk hJ).mono ?_
  rintro e w1 ⟨⟨s, c, rfl, hi⟩, hb⟩
  rw [hE, if_pos rfl] at hi
  exact ⟨⟨s, c, by rw [hE, if_pos rfl], hi⟩, hb⟩
theorem hPh_2 {N cap : Nat} {ao : Option Addr} {A : Nat → Option Addr} {l c : Nat → Nat} {F : Nat → Nat → Int} {m dap : Nat} {bo : Option Addr} {B : Nat → Int} {k fap : Nat} {co : Option Addr} {C : Nat → Int} {w : World} (hE : lsE N l F m B k C = 2) (hN : N ≤ 9223372036854775807) (hR : Rowsw w ao N A l c F) (hm : m ≤ 9223372036854775807) (hI : Ints w bo m B) (hk : k ≤ 9223372036854775807) (hJ : Ints w co k C) :
    Calls Try.prog 33 #[.agg #[.slice ao N cap], .slice bo m dap, .slice co k fap] w fun e w' => (∃ s c, e = .returned (.tuple #[.slice s 0 c, .int .i64 2])) ∧ Below w.heap.size w w' := by
  refine (hPhases_any N cap ao A l c F m dap bo B k fap co C w hN hR hm hI hk hJ).mono ?_
  rintro e w1 ⟨⟨s, c, rfl, hi⟩, hb⟩
  exact ⟨⟨s, c, by rw [hE, if_neg (by decide)]⟩, hb⟩
theorem hCh_0 {N cap : Nat} {ao : Option Addr} {A : Nat → Option Addr} {l c : Nat → Nat} {F : Nat → Nat → Int} {m dap : Nat} {bo : Option Addr} {B : Nat → Int} {s top : Int} {w : World} (hE : chE N l F m B s top = 0) (hN : N ≤ 9223372036854775807) (hR : Rowsw w ao N A l c F) (hm : m ≤ 9223372036854775807) (hI : Ints w bo m B) :
    Calls Try.prog 44 #[.agg #[.slice ao N cap], .slice bo m dap, .int .i64 s, .int .i64 top] w fun e w' => (∃ p c, e = .returned (.tuple #[.slice p N c, .int .i64 0]) ∧ Ints w' p N (opL (chP N F B s top))) ∧ Below w.heap.size w w' := by
  refine (hCheapest_any N cap ao A l c F m dap bo B s top w hN hR hm hI).mono ?_
  rintro e w1 ⟨⟨p, c, rfl, hi⟩, hb⟩
  rw [hE, if_pos rfl] at hi
  exact ⟨⟨p, c, by rw [hE, if_pos rfl], hi⟩, hb⟩
theorem hCh_62 {N cap : Nat} {ao : Option Addr} {A : Nat → Option Addr} {l c : Nat → Nat} {F : Nat → Nat → Int} {m dap : Nat} {bo : Option Addr} {B : Nat → Int} {s top : Int} {w : World} (hE : chE N l F m B s top = 62) (hN : N ≤ 9223372036854775807) (hR : Rowsw w ao N A l c F) (hm : m ≤ 9223372036854775807) (hI : Ints w bo m B) :
    Calls Try.prog 44 #[.agg #[.slice ao N cap], .slice bo m dap, .int .i64 s, .int .i64 top] w fun e w' => (∃ p c, e = .returned (.tuple #[.slice p 0 c, .int .i64 62])) ∧ Below w.heap.size w w' := by
  refine (hCheapest_any N cap ao A l c F m dap bo B s top w hN hR hm hI).mono ?_
  rintro e w1 ⟨⟨p, c, rfl, hi⟩, hb⟩
  exact ⟨⟨p, c, by rw [hE, if_neg (by decide)]⟩, hb⟩
theorem step_make_full {P : Program} {w : World} {ops : Array Oper} {o : Oper} {a : Act} {K : Act → World → Prop} {Q : Exit → Act → World → Prop} {E : Prop} (hgd : o.guard = none) (l c : Operand) (t : TypeId) (hop : o.op = Op.makeSlice t l c)
    (base : Nat) (e : TypeId) (i : TypeInfo) (z : Value) (size : Nat) (h1 : P.underlying t = some (.slice e)) (h2 : P.info? e = some i) (h3 : i.zero = some z) (h4 : i.size = size)
    (kl kc : IntKind) (n : Nat) (hl : a.eval l = .int kl n) (hc : a.eval c = .int kc n) (b2 : i.bytes * n ≤ 281474976710656) (b3 : n ≤ maxLen) (b4 : base ≤ w.heap.size)
    (hK : ∀ w', w'.ownsRow base e size (.slice (some ⟨w.heap.size, 0, none⟩) n n) n (madeCells z.cells (n * size)).toList → w.grownBy w' none → K (a.put o.dst (.slice (some ⟨w.heap.size, 0, none⟩) n n)) w') :
    if Region.wanted o (yielded ops a.tmps) = true then Oper.wp P o a w K Q else E := by
  have hw : Region.wanted o (yielded ops a.tmps) = true := by simp [Region.wanted, hgd]
  rw [if_pos hw]
  obtain ⟨w', hrun, r1, r2⟩ := run_make_full (P := P) w base t e i z size h1 h2 h3 h4 kl kc n b2 b3 b4
  unfold Oper.wp
  simp [execOp, hop, hl, hc, hrun, Result.andThen]
  exact hK w' r1 r2
set_option maxRecDepth 100000 in
set_option maxHeartbeats 4000000 in
theorem lSum_any (n cap : Nat) (ao : Option Addr) (f : Nat → Int) (w : World) (hn : n ≤ 1000) (hc : Ints w ao n f) (hf : ∀ k, k < n → (f k).natAbs ≤ 1000000000000) :
    Calls Try.prog 45 #[.slice ao n cap] w fun e w' => e = .returned (.int .i64 (sumI f n)) ∧ Below w.heap.size w w' := by
  have HC := Lib.hid hc
  have HFB : Hid (∀ k, k ≤ n → (sumI f k).natAbs ≤ 1000000000000 * k) := Lib.hid (fun k => by
    induction k with
    | zero => intro _; simp [sumI]
    | succ k ih =>
      intro hk
      have := ih (by omega)
      have := hf k (by omega)
      simp only [sumI]
      omega)
  have HFN := Lib.hid hf
  clear hc hf
  go_enter Try.func45, Try.ntmps45
  go_wp2_with fail
  go_loopw [3, 4] (fun sv iv wr => ∃ (k : Nat) (s : Int), sv = .int .i64 s ∧ iv = .int .i64 k ∧ k ≤ n ∧ Hid (sumI f k = s) ∧ w = wr) (fun _ iv _ => n - (intOf iv).toNat)
  case atStart => exact ⟨0, 0, rfl, rfl, by omega, Lib.hid rfl, by first | rfl | trivial⟩
  case round =>
    obtain ⟨k, s, rfl, rfl, hk, HS, rfl⟩ := hrel
    by_cases hlt : k < n
    · have hlt' : (k : Int) < (n : Int) := by omega
      obtain ⟨b, o, rfl, hcell⟩ := HC.out (by omega)
      have g0 := hcell k hlt
      clear hcell
      have q1 := HFB.out k hk
      have q2 := HFN.out k hlt
      rw [HS.out] at q1
      obtain ⟨x, hx⟩ : ∃ x, f k = x := ⟨_, rfl⟩
      have HN : Hid (sumI f (k + 1) = s + x) := Lib.hid (by simp only [sumI]; rw [HS.out, hx])
      rw [hx] at g0 q2
      clear hx
      have wk : wrap64 ((k : Int) + 1) = (k : Int) + 1 := by simp only [wrap64]; omega
      have ws : wrap64 (s + x) = s + x := by simp only [wrap64]; omega
      clear q1 q2
      go_wp2_with fail
      go_roundw
      case rel => exact ⟨k + 1, s + x, by first | rfl | rw [ws], by go_num, by omega, HN, by first | rfl | trivial⟩
      case measure => simp [intOf]; omega
    · obtain rfl : k = n := by omega
      go_wp2_with fail
      refine bodyPost_ret (v := .int .i64 s) (by simp [results, Try.results45, go_sem]) rfl ⟨by rw [HS.out], Below.refl _ _⟩

set_option maxRecDepth 100000 in
set_option maxHeartbeats 16000000 in
theorem HeatMore_any (N cap : Nat) (ao : Option Addr) (A : Nat → Option Addr) (l c : Nat → Nat) (F : Nat → Nat → Int) (bo : Option Addr) (m dap : Nat) (B : Nat → Int) (co : Option Addr) (k fap : Nat) (C : Nat → Int) (a0 a1 a2 : Int) (w : World) (hN : N ≤ 9223372036854775807) (hR : Rowsw w ao N A l c F) (hm : m ≤ 9223372036854775807) (hI : Ints w bo m B) (hk : k ≤ 9223372036854775807) (hJ : Ints w co k C)
    (r0 : 0 ≤ a0 ∧ a0 ≤ 255) (r1 : 0 ≤ a1 ∧ a1 ≤ 255) (r2 : 0 ≤ a2 ∧ a2 ≤ 255) :
    Calls Try.prog 12 #[.agg #[.slice ao N cap, .slice bo m dap, .slice co k fap], .agg #[.int .u8 a0, .int .u8 a1, .int .u8 a2]] w fun e w' => e = .returned (.bool true) ∧ Below w.heap.size w w' := by
  have HG := Lib.hid hR
  have HI := Lib.hid hI
  have HJ := Lib.hid hJ
  have HU := Lib.hid (And.intro r0 (And.intro r1 r2))
  clear hR hI hJ r0 r1 r2
  obtain ⟨bw, hbw⟩ : ∃ bw, wideG N l = bw := ⟨_, rfl⟩
  have HBW := Lib.hid hbw
  obtain ⟨bk, hbk⟩ : ∃ bk, okG N l F = bk := ⟨_, rfl⟩
  have HBK := Lib.hid hbk
  clear hbw hbk
  have hnil := fun (w : World) (a : Option Addr) (m c : Nat) => Lib.run_eql_slice_nil (P := Try.prog) w 24 3 a m c 0 0 Try.underlying24
  have HM0 : Hid (MoreB ((w.alloc (Obj.cells #[.slice ao N cap, .slice bo m dap, .slice co k fap] 50)).alloc (Obj.cells #[.int .u8 a0, .int .u8 a1, .int .u8 a2] 62)) w.heap.size (.slice ao N cap) (.slice bo m dap) (.slice co k fap) a0 a1 a2) := Lib.hid ⟨by go_cell, by go_cell, by go_cell, by go_cell, by go_cell, by go_cell⟩
  have hb0 : Below w.heap.size w ((w.alloc (Obj.cells #[.slice ao N cap, .slice bo m dap, .slice co k fap] 50)).alloc (Obj.cells #[.int .u8 a0, .int .u8 a1, .int .u8 a2] 62)) := by go_grown
  go_enter Try.func12, Try.ntmps12
  go_upto_region 1 with fail
  generalize ((w.alloc (Obj.cells #[.slice ao N cap, .slice bo m dap, .slice co k fap] 50)).alloc (Obj.cells #[.int .u8 a0, .int .u8 a1, .int .u8 a2] 62)) = W at *
  have HB0 := Lib.hid hb0
  clear hb0
  obtain ⟨bx0, bx1, bx2, bx3, bx4, bx5⟩ := HM0.out
  go_wp2_with fail
  refine (wide_any N cap ao A l c F _ hN (HG.out.keep HB0.out)).mono ?_
  rw [HBW.out]
  rintro e w1 ⟨rfl, hb⟩
  have HB1 := Lib.hid (HB0.out.trans (hb.mono HB0.out.size))
  have HM1 := Lib.hid (HM0.out.keep hb)
  clear hb HB0 HM0 bx0 bx1 bx2 bx3 bx4 bx5
  obtain ⟨bx0, bx1, bx2, bx3, bx4, bx5⟩ := HM1.out
  cases bw with
  | true =>
    go_wp2_with fail
    refine (sane_any _).mono ?_
    rintro e w99 ⟨rfl, hb⟩
    have D99 := HB1.out.trans (hb.mono HB1.out.size)
    clear hb
    go_wp2_with fail
    go_returns
    exact ⟨rfl, D99⟩
  | false =>
  by_cases hm20 : 20 < (m : Int)
  ·
    go_wp2_with fail
    refine (sane_any _).mono ?_
    rintro e w99 ⟨rfl, hb⟩
    have D99 := HB1.out.trans (hb.mono HB1.out.size)
    clear hb
    go_wp2_with fail
    go_returns
    exact ⟨rfl, D99⟩
  by_cases hk20 : 20 < (k : Int)
  ·
    go_wp2_with fail
    refine (sane_any _).mono ?_
    rintro e w99 ⟨rfl, hb⟩
    have D99 := HB1.out.trans (hb.mono HB1.out.size)
    clear hb
    go_wp2_with fail
    go_returns
    exact ⟨rfl, D99⟩
  go_wp2_with fail
  refine (rhValid_any N cap ao A l c F _ hN (HG.out.keep HB1.out)).mono ?_
  rw [HBK.out]
  rintro e w2 ⟨rfl, hb⟩
  have HB2 := Lib.hid (HB1.out.trans (hb.mono HB1.out.size))
  have HM2 := Lib.hid (HM1.out.keep hb)
  clear hb HB1 HM1 bx0 bx1 bx2 bx3 bx4 bx5
  obtain ⟨bx0, bx1, bx2, bx3, bx4, bx5⟩ := HM2.out
  cases bk with
  | false =>
    go_wp2_with fail
    refine (sane_any _).mono ?_
    rintro e w99 ⟨rfl, hb⟩
    have D99 := HB2.out.trans (hb.mono HB2.out.size)
    clear hb
    go_wp2_with fail
    go_returns
    exact ⟨rfl, D99⟩
  | true =>
  by_cases hkN : (k : Int) = (N : Int)
  case neg =>
    have hne : ((k : Int) != (N : Int)) = true := bne_iff_ne.2 hkN
    have hne2 : ((k : Int) == (N : Int)) = false := beq_eq_false_iff_ne.2 hkN
    clear hkN
    go_wp2_with fail
    refine (sane_any _).mono ?_
    rintro e w99 ⟨rfl, hb⟩
    have D99 := HB2.out.trans (hb.mono HB2.out.size)
    clear hb
    go_wp2_with fail
    go_returns
    exact ⟨rfl, D99⟩
  obtain rfl : k = N := by omega
  clear hkN
  by_cases hmN : (m : Int) = (k : Int)
  case neg =>
    have hne : ((m : Int) != (k : Int)) = true := bne_iff_ne.2 hmN
    have hne2 : ((m : Int) == (k : Int)) = false := beq_eq_false_iff_ne.2 hmN
    clear hmN
    go_wp2_with fail
    refine (sane_any _).mono ?_
    rintro e w99 ⟨rfl, hb⟩
    have D99 := HB2.out.trans (hb.mono HB2.out.size)
    clear hb
    go_wp2_with fail
    go_returns
    exact ⟨rfl, D99⟩
  obtain rfl : m = k := by omega
  clear hmN
  have hN5 := (okG_iff.1 HBK.out).1.2
  have hN1 := (okG_iff.1 HBK.out).1.1
  have HF : Hid (∀ i, i < m → ∀ j, j < m → -200 ≤ F i j ∧ F i j ≤ 200) := Lib.hid (fun i hi => ((okG_iff.1 HBK.out).2 i hi).2)
  have HRA := Lib.hid (HG.out.at HBK.out)
  obtain ⟨ba, hba⟩ : ∃ ba, (inB m B m (-1000000) 1000000 && inB m C m 0 1000) = ba := ⟨_, rfl⟩
  have HBA := Lib.hid hba
  have HE1 : Hid (lsE m l F m B m C = if ba = true then 0 else 2) := Lib.hid (by unfold lsE; rw [HBK.out, hba]; rfl)
  clear hba
  have hmm : ((m : Int) != (m : Int)) = false := by simp
  have hmm2 : ((m : Int) == (m : Int)) = true := by simp
  go_wp2_with fail
  refine (hPhases_any m cap ao A l c F m dap bo B m fap co C _ hN (HG.out.keep HB2.out) hm (HI.out.keep HB2.out) hk (HJ.out.keep HB2.out)).mono ?_
  unfold LsR
  rw [HE1.out]
  rintro e w3 ⟨⟨sa, ca, rfl, hia⟩, hb⟩
  have HIA := Lib.hid hia
  clear hia
  have HB3 := Lib.hid (HB2.out.trans (hb.mono HB2.out.size))
  have HM3 := Lib.hid (HM2.out.keep hb)
  clear hb HB2 HM2 bx0 bx1 bx2 bx3 bx4 bx5
  obtain ⟨bx0, bx1, bx2, bx3, bx4, bx5⟩ := HM3.out
  cases ba with
  | false =>
    dsimp only [reduceCtorEq, if_false]
    go_wp2_with fail
    refine (sane_any _).mono ?_
    rintro e w99 ⟨rfl, hb⟩
    have D99 := HB3.out.trans (hb.mono HB3.out.size)
    clear hb
    go_wp2_with fail
    go_returns
    exact ⟨rfl, D99⟩
  | true =>
  have HBI : Hid (∀ j, j < m → -1000000 ≤ B j ∧ B j ≤ 1000000) := Lib.hid (fun j hj => (inB_iff.1 (Bool.and_eq_true _ _ ▸ HBA.out).1).2 j hj)
  have HCI : Hid (∀ j, j < m → 0 ≤ C j ∧ C j ≤ 1000) := Lib.hid (fun j hj => (inB_iff.1 (Bool.and_eq_true _ _ ▸ HBA.out).2).2 j hj)
  replace HIA : Hid (Ints w3 sa m (phL m F B C)) := Lib.hid HIA.out
  obtain ⟨x, hx⟩ : ∃ x : Nat, a0 % (m : Int) = x := Int.eq_ofNat_of_zero_le (Int.emod_nonneg _ (by omega))
  have hxm : x < m := by have := Int.emod_lt_of_pos a0 (show (0 : Int) < m by omega); omega
  have HX := Lib.hid hx
  obtain ⟨u0, u1, u2⟩ := HU.out
  have m1 : (1 : Int) ≤ (m : Int) := by omega
  clear hx
  obtain ⟨i0, hi, hz0, hz1, hz2⟩ := info_parts infoInt
  have HINF := Lib.hid (And.intro hi (And.intro hz0 (And.intro hz1 hz2)))
  obtain ⟨bC, oC, hco, hcell⟩ := HJ.out (by omega)
  have HCL := Lib.hid hcell
  subst hco
  have hbC : bC < w.heap.size := World.block_lt_of_cell? w _ (hcell 0 (by omega))
  clear hi hz0 hz1 hz2 hcell
  dsimp only [if_true]
  obtain ⟨u00, u01⟩ := u0
  go_upto_region 8 with fail
  simp only [HX.out]
  have hw3 := HB3.out.size
  have hl3 : w.heap.size < w3.heap.size := by have := HM3.out.lt; omega
  go_wp2_with (at_builtin; refine wpList_append_own _ rfl (.tmp 87) (.tmp 89) 24 rfl w3.heap.size 3 i0 _ 1 8 Try.underlying24 HINF.out.1 HINF.out.2.1 HINF.out.2.2.1 HINF.out.2.2.2 rfl (by decide) _ 0 [] rfl (World.ownsRow_made w3 #[] 0 (Nat.le_refl _) (by unfold maxLen; omega) rfl) ⟨bC, oC, none⟩ m fap (cellsI C m) rfl ?c0 ?c1 ?c2 ?c3 ?c4 ?c5 ?_)
  case c0 => rw [cellsI_len]; (try omega)
  case c1 =>
    intro j u hu
    have hj : j < m := by have := (List.getElem?_eq_some_iff.1 hu).1; rwa [cellsI_len] at this
    rw [cellsI_get C hj] at hu
    first | rw [Addr.add_lit, ← hu] | rw [← hu]
    exact (((HB3.out.alloc HB3.out.size _)).cell (p := ⟨bC, oC + j, none⟩) hbC).trans (HCL.out j hj)
  case c2 => exact cellsI_one C m
  case c3 => unfold maxLen; omega
  case c4 => omega
  try (case c5 => first | omega | (simp; done) | (simp; omega))
  intro v' w4 hown hgrow _
  (try simp only [Nat.zero_add, List.nil_append] at hown)
  obtain ⟨g9, cap9, rfl, hgB, hgs, hgc, hgm⟩ := own_fm hown hN1
  have HW9 : Hid (Intw w4 g9 m C) := Lib.hid (Intw.of_own hown fun i hi => cellsI_get C hi)
  have HSEP : Hid (∀ b1 o1, sa = some ⟨b1, o1, none⟩ → ¬ g9 = b1) := Lib.hid (fun b1 o1 e1 e => by
    obtain ⟨b2, o2, e2, hc2⟩ := HIA.out (by omega)
    have hlt : b2 < w3.heap.size := World.block_lt_of_cell? _ _ (hc2 0 (by omega))
    rw [e2] at e1
    simp only [Option.some.injEq, Addr.mk.injEq] at e1
    omega)
  have D4 : Below w3.heap.size w3 w4 := Below.grown (by go_grown) hgrow (by first | omega | (simp; done) | (simp; omega)) (fun k hk => by simp [Value.ownBlock] at hk; omega)
  have HM4 := Lib.hid (HM3.out.keep D4)
  have HIA4 := Lib.hid (HIA.out.keep D4)
  have HB4 := Lib.hid (HB3.out.trans (D4.mono HB3.out.size))
  have hg9 : w.heap.size + 1 < g9 := by have := HM3.out.lt; omega
  have hg9s : g9 < w4.heap.size := hgs
  clear hown hgrow hgB hgs hgc D4 HM3 HIA HB3 bx0 bx1 bx2 bx3 bx4 bx5
  obtain ⟨m0, m9⟩ := HW9.out x hxm
  have hcx := HCI.out x hxm
  obtain ⟨y, hy⟩ : ∃ y, C x = y := ⟨_, rfl⟩
  have HY := Lib.hid hy
  rw [hy] at m0 hcx
  have HCN : Hid (Intw (w4.setCell ⟨g9, x, none⟩ (.int .i64 (y + 1))) g9 m (updI C x (C x + 1))) := Lib.hid (by rw [hy]; exact HW9.out.store hxm (y + 1))
  have HMN := Lib.hid (HM4.out.other (b := g9) (n := x) (v := .int .i64 (y + 1)) hg9)
  have HIN : Hid (Ints (w4.setCell ⟨g9, x, none⟩ (.int .i64 (y + 1))) sa m (phL m F B C)) := Lib.hid (fun hpos => by
    obtain ⟨b1, o1, e1, hc1⟩ := HIA4.out hpos
    exact ⟨b1, o1, e1, fun i hi => by
      have := hc1 i hi
      have hne : ¬ g9 = b1 := HSEP.out b1 o1 e1
      go_cell⟩)
  have HBN := Lib.hid (HB4.out.setCell (p := ⟨g9, x, none⟩) (by simp only; omega) (.int .i64 (y + 1)))
  have hsn : g9 < (w4.setCell ⟨g9, x, none⟩ (.int .i64 (y + 1))).heap.size := by simpa using hg9s
  have wy : wrap64 (y + 1) = y + 1 := by simp only [wrap64]; omega
  clear HW9 HM4 HIA4 HB4 HSEP hw3 hl3 hg9s hgm hy
  go_upto_region 10 with fail
  generalize (w4.setCell ⟨g9, x, none⟩ (.int .i64 (y + 1))) = w5 at *
  clear m0 m9 wy
  have HM5 := HMN
  have HB5 := HBN
  obtain ⟨bx0, bx1, bx2, bx3, bx4, bx5⟩ := HM5.out
  clear HMN HBN
  have HCX : Hid (C x = y ∧ 0 ≤ y ∧ y ≤ 1000) := Lib.hid ⟨HY.out, hcx.1, hcx.2⟩
  by_cases hle : y + 1 ≤ 1000
  · have HE2 : Hid (lsE m l F m B m (updI C x (C x + 1)) = 0) := Lib.hid (ls_ok HBK.out (by
      rw [Bool.and_eq_true]
      refine ⟨(Bool.and_eq_true _ _ ▸ HBA.out).1, inB_iff.2 ⟨rfl, fun j hj => ?_⟩⟩
      unfold updI
      split
      · have := HCX.out; omega
      · exact HCI.out j hj))
    go_wp2_with fail
    refine (hPh_0 HE2.out hN (HG.out.keep HB5.out) hm (HI.out.keep HB5.out) hk (HCN.out.ints (g := g9))).mono ?_
    rintro e w6 ⟨⟨sb, cb, rfl, hib⟩, hb⟩
    have HIB6 := Lib.hid hib
    have HIA6 := Lib.hid (HIN.out.keep hb)
    have HC6 := Lib.hid (HCN.out.keep hb)
    clear hib
    have HB6 := Lib.hid (HB5.out.trans (hb.mono HB5.out.size))
    have HM6 := Lib.hid (HM5.out.keep hb)
    clear hb HB5 HM5 HIN HCN bx0 bx1 bx2 bx3 bx4 bx5
    obtain ⟨bx0, bx1, bx2, bx3, bx4, bx5⟩ := HM6.out
    have HE3 : Hid (lsE m l F m B m (fun _ => 0) = 0) := Lib.hid (ls_ok HBK.out (by rw [Bool.and_eq_true]; exact ⟨(Bool.and_eq_true _ _ ▸ HBA.out).1, inB_iff.2 ⟨rfl, fun j hj => by omega⟩⟩))
    go_upto_region 11 with fail
    have D0 : Below w6.heap.size w6 w6.drew := (Below.refl _ _).drew
    refine wp_region_held_drew (S := fun w' => MoreB w' w.heap.size (.slice ao m cap) (.slice bo m dap) (.slice (some ⟨bC, oC, none⟩) m fap) a0 a1 a2) (by kernel_rfl) (HM6.out.keep D0) (fun hHeld => ?_)
    refine wpAnyH_take (i := 0) (oi := _) (v := ?_) rfl (by kernel_rfl) (by kernel_rfl) (by kernel_rfl) (fun _ _ _ h => h) (Or.inl ⟨by rfl, ?_⟩) (by assumption) ?_
    rotate_left
    · intro w hSw; obtain ⟨_, _, _, _, _, _⟩ := hSw; go_simp; (try with_reducible rfl)
    try change wpAnyH _ _ _ _ _ _ _ (Act.put _ (some 107) _) _
    try simp only [act_all]
    refine wpAnyH_take (i := 1) (oi := _) (v := ?_) rfl (by kernel_rfl) (by kernel_rfl) (by kernel_rfl) (fun _ _ _ h => h) (Or.inl ⟨by rfl, ?_⟩) (by assumption) ?_
    rotate_left
    · intro w hSw; obtain ⟨_, _, _, _, _, _⟩ := hSw; go_simp; (try with_reducible rfl)
    try change wpAnyH _ _ _ _ _ _ _ (Act.put _ (some 108) _) _
    try simp only [act_all]
    refine wpAnyH_take (i := 2) (oi := _) (v := ?_) rfl (by kernel_rfl) (by kernel_rfl) (by kernel_rfl) (fun _ _ _ h => h) (Or.inl ⟨by rfl, ?_⟩) (by assumption) ?_
    rotate_left
    · intro w hSw; obtain ⟨_, _, _, _, _, _⟩ := hSw; go_simp; (try with_reducible rfl)
    try change wpAnyH _ _ _ _ _ _ _ (Act.put _ (some 109) _) _
    try simp only [act_all]
    refine wpAnyH_take (i := 3) (oi := _) (v := ?_) rfl (by kernel_rfl) (by kernel_rfl) (by kernel_rfl) (fun _ _ _ h => h) (Or.inl ⟨by rfl, ?_⟩) (by assumption) ?_
    rotate_left
    · intro w hSw; obtain ⟨_, _, _, _, _, _⟩ := hSw; go_simp; (try with_reducible rfl)
    try change wpAnyH _ _ _ _ _ _ _ (Act.put _ (some 110) _) _
    try simp only [act_all]
    refine wpAnyH_take (i := 4) (oi := _) (v := ?_) rfl (by kernel_rfl) (by kernel_rfl) (by kernel_rfl) (fun _ _ _ h => h) (Or.inl ⟨by rfl, ?_⟩) (by assumption) ?_
    rotate_left
    · intro w hSw; obtain ⟨_, _, _, _, _, _⟩ := hSw; go_simp; (try with_reducible rfl)
    try change wpAnyH _ _ _ _ _ _ _ (Act.put _ (some 111) _) _
    try simp only [act_all]
    refine wpAnyH_ready (rs := [5]) (by kernel_rfl) (by simp) ?_
    refine AllReadyH.cons (o := _) rfl (fun K hK => ?_) AllReadyH.nil
    refine step_make_full (by rfl) _ _ 24 (by rfl) w6.drew.heap.size 3 i0 _ 1 Try.underlying24 HINF.out.1 HINF.out.2.1 HINF.out.2.2.1 .i64 .i64 m (by rfl) (by rfl) (by rw [HINF.out.2.2.2]; omega) (by unfold maxLen; omega) (Nat.le_refl _) ?_
    intro w7 hown hgrow
    have HZ7 : Hid (Intw w7 w6.drew.heap.size m (fun _ => 0)) := Lib.hid (Intw.of_own hown fun i hi => by rw [Nat.mul_one]; exact made_get m i hi)
    have D7a : Below w6.drew.heap.size w6.drew w7 := Below.grown (Below.refl _ _) hgrow (Nat.le_refl _) (fun k hk => by cases hk)
    have D7 : Below w6.heap.size w6 w7 := D0.trans (D7a.mono D0.size)
    clear hown hgrow D7a
    refine hK.out _ _ (HM6.out.keep D7) (fun hHeld => ?_)
    clear hK K
    try simp only [act_all]
    refine wpAnyH_ready (rs := [6]) (by kernel_rfl) (by simp) ?_
    refine AllReadyH.cons (o := _) rfl (fun K hK => ?_) AllReadyH.nil
    go_simp
    refine (hPh_0 HE3.out hN (HG.out.keep (HB6.out.trans (D7.mono HB6.out.size))) hm (HI.out.keep (HB6.out.trans (D7.mono HB6.out.size))) hk HZ7.out.ints).mono ?_
    rintro e w8 ⟨⟨sc, cc, rfl, hic⟩, hb⟩
    have HIC8 := Lib.hid hic
    have D8 : Below w6.heap.size w6 w8 := D7.trans (hb.mono D7.size)
    clear hb hic
    refine hK.out _ _ (HM6.out.keep D8) (fun hHeld => ?_)
    clear hK K
    try simp only [act_all]
    refine wpAnyH_take (i := 7) (oi := _) (v := ?_) rfl (by kernel_rfl) (by kernel_rfl) (by kernel_rfl) (fun _ _ _ h => h) (Or.inl ⟨by rfl, ?_⟩) (by assumption) ?_
    rotate_left
    · intro w hSw; obtain ⟨_, _, _, _, _, _⟩ := hSw; go_simp; (try with_reducible rfl)
    try change wpAnyH _ _ _ _ _ _ _ (Act.put _ (some 106) _) _
    try simp only [act_all]
    refine wpAnyH_take (i := 8) (oi := _) (v := ?_) rfl (by kernel_rfl) (by kernel_rfl) (by kernel_rfl) (fun _ _ _ h => h) (Or.inl ⟨by rfl, ?_⟩) (by assumption) ?_
    rotate_left
    · intro w hSw; obtain ⟨_, _, _, _, _, _⟩ := hSw; go_simp; (try with_reducible rfl)
    try change wpAnyH _ _ _ _ _ _ _ (Act.put _ (some 114) _) _
    try simp only [act_all]
    refine wpAnyH_take (i := 9) (oi := _) (v := ?_) rfl (by kernel_rfl) (by kernel_rfl) (by kernel_rfl) (fun _ _ _ h => h) (Or.inl ⟨by rfl, ?_⟩) (by assumption) ?_
    rotate_left
    · intro w hSw; obtain ⟨_, _, _, _, _, _⟩ := hSw; go_simp; (try with_reducible rfl)
    try change wpAnyH _ _ _ _ _ _ _ (Act.put _ (some 115) _) _
    try simp only [act_all]
    refine wpAnyH_take (i := 10) (oi := _) (v := ?_) rfl (by kernel_rfl) (by kernel_rfl) (by kernel_rfl) (fun _ _ _ h => h) (Or.inl ⟨by rfl, ?_⟩) (by assumption) ?_
    rotate_left
    · intro w hSw; obtain ⟨_, _, _, _, _, _⟩ := hSw; go_simp; (try with_reducible rfl)
    try change wpAnyH _ _ _ _ _ _ _ (Act.put _ (some 12) _) _
    try simp only [act_all]
    refine wpAnyH_take (i := 11) (oi := _) (v := ?_) rfl (by kernel_rfl) (by kernel_rfl) (by kernel_rfl) (fun _ _ _ h => h) (Or.inl ⟨by rfl, ?_⟩) (by assumption) ?_
    rotate_left
    · intro w hSw; obtain ⟨_, _, _, _, _, _⟩ := hSw; go_simp; (try with_reducible rfl)
    try change wpAnyH _ _ _ _ _ _ _ (Act.put _ (some 13) _) _
    try simp only [act_all]
    refine wpAnyH_done (by kernel_rfl) ?_ _
    clear hHeld bx0 bx1 bx2 bx3 bx4 bx5
    have HM8 := Lib.hid (HM6.out.keep D8)
    have HB8 := Lib.hid (HB6.out.trans (D8.mono HB6.out.size))
    have HIA8 := Lib.hid (HIA6.out.keep D8)
    have HIB8 := Lib.hid (HIB6.out.keep D8)
    have HC8 := Lib.hid (HC6.out.keep D8)
    clear D8 D7 D0 HZ7 HM6 HB6 HIA6 HIB6 HC6
    obtain ⟨m0, _⟩ := HC8.out x hxm
    rw [updI_at, HY.out] at m0
    obtain ⟨bx0, bx1, bx2, bx3, bx4, bx5⟩ := HM8.out
    go_wp2_with fail
    have HK : Hid (∀ w', Below w8.heap.size w8 w' → MoreB w' w.heap.size (.slice ao m cap) (.slice bo m dap) (.slice (some ⟨bC, oC, none⟩) m fap) a0 a1 a2 ∧ Ints w' sa m (phL m F B C) ∧ Ints w' sc m (phL m F B (fun _ => 0)) ∧ Ints w' sb m (phL m F B (updI C x (C x + 1)))) := Lib.hid (fun w' hb => ⟨HM8.out.keep hb, HIA8.out.keep hb, HIC8.out.keep hb, HIB8.out.keep hb⟩)
    clear HM8 HIA8 HIC8 HC8 HIB8 bx0 bx1 bx2 bx3 bx4 bx5 m0
    go_loopg [14] m (fun k iv wr => ∃ (z : Int) (i : Nat), iv = .int .i64 z ∧ Hid (z = i) ∧ Hid (i + k = m) ∧ Hid (Below w8.heap.size w8 wr))
    case atStart => exact ⟨0, 0, rfl, Lib.hid (by omega), Lib.hid (by omega), Lib.hid (Below.refl _ _)⟩
    case round =>
      obtain ⟨z, i, rfl, HZ, HIK, HD⟩ := hrel
      have hz := HZ.out
      have hi : i ≤ m := by have := HIK.out; omega
      clear HZ
      obtain ⟨hMB, hA, hC, hB'⟩ := HK.out _ HD.out
      by_cases hlt : i < m
      · have hlt' : z < (m : Int) := by omega
        subst hz
        have i00 : (0 : Int) ≤ (i : Int) := by omega
        have wz : wrap64 ((i : Int) + 1) = (i : Int) + 1 := by simp only [wrap64]; omega
        have HBW := Lib.hid (HB8.out.trans (HD.out.mono HB8.out.size))
        obtain ⟨b1, o1, rfl, hc1⟩ := hA (by omega)
        obtain ⟨b3, o3, rfl, hc3⟩ := hC (by omega)
        obtain ⟨b2, o2, rfl, hc2⟩ := hB' (by omega)
        obtain ⟨b4, o4, rfl, hc4⟩ := HI.out (by omega)
        obtain ⟨b5, o5, b6, o6, rfl, hbl, hrow, hb6l, hcl⟩ := HRA.out i hlt
        have g1 := hc1 i hlt
        have g3 := hc3 i hlt
        have g2 := hc2 i hlt
        have g4 := (HBW.out.cell (p := ⟨b4, o4 + i, none⟩) (World.block_lt_of_cell? w _ (hc4 i hlt))).trans (hc4 i hlt)
        have g5 := (HBW.out.cell (p := ⟨b5, o5 + i, none⟩) hbl).trans hrow
        have g6 := (HBW.out.cell (p := ⟨b6, o6 + x, none⟩) hb6l).trans (hcl x hxm)
        obtain ⟨bx0, bx1, bx2, bx3, bx4, bx5⟩ := hMB
        have hr3 : (phL m F B (fun _ => 0) i - B i).tmod 1000000 = 0 := ph_base
        have hq1 : 0 ≤ phL m F B C i ∧ phL m F B C i < 1000000 := by unfold phL; omega
        have hq3 : 0 ≤ phL m F B (fun _ => 0) i ∧ phL m F B (fun _ => 0) i < 1000000 := by unfold phL; omega
        have hq4 := HBI.out i hlt
        have hq6 := HF.out i hlt x hxm
        have hr2 : (phL m F B (updI C x (C x + 1)) i - phL m F B C i - F i x).tmod 1000000 = 0 := ph_more hxm
        have hq2 : 0 ≤ phL m F B (updI C x (C x + 1)) i ∧ phL m F B (updI C x (C x + 1)) i < 1000000 := by unfold phL; omega
        obtain ⟨p2, hp2⟩ : ∃ p2, phL m F B (updI C x (C x + 1)) i = p2 := ⟨_, rfl⟩
        rw [hp2] at g2 hr2 hq2
        obtain ⟨p1, hp1⟩ : ∃ p1, phL m F B C i = p1 := ⟨_, rfl⟩
        obtain ⟨p3, hp3⟩ : ∃ p3, phL m F B (fun _ => 0) i = p3 := ⟨_, rfl⟩
        obtain ⟨p4, hp4⟩ : ∃ p4, B i = p4 := ⟨_, rfl⟩
        obtain ⟨p6, hp6⟩ : ∃ p6, F i x = p6 := ⟨_, rfl⟩
        rw [hp1] at g1 hq1 hr2
        rw [hp3] at g3 hr3 hq3
        rw [hp4] at g4 hr3 hq4
        rw [hp6] at g6 hq6 hr2
        have e3 : IntKind.i64.wrap (p3 - p4) = p3 - p4 := by clear wz; go_arith
        have e1 : IntKind.i64.wrap (p2 - p1) = p2 - p1 := by clear wz; go_arith
        have e2 : IntKind.i64.wrap (p2 - p1 - p6) = p2 - p1 - p6 := by clear wz; go_arith
        clear hc1 hc3 hc4 hcl hrow hA hC hp1 hp3 hp4 hp6 hq1 hq3 hq4 hq6 HBW hc2 hB' hp2 hq2
        go_upto_region 17 with fail
        go_quiet (fail)
        have HDn := Lib.hid (drewN_below (n := nq) HD.out)
        generalize wr.drewN nq = wv at *
        clear e3 hr3 e1 e2 hr2 g1 g3 g4 g5 g6 g2 bx0 bx1 bx2 bx3 bx4 bx5 hmm hmm2 HK HD
        go_upto_if 189 with fail
        clear wz
        go_upto_region 16 with fail
        refine wp_region_lit ?_
        refine wpList_step (fun K hK => ?_); go_simp; refine hK _ _ ?_; clear hK K
        refine wpList_step (fun K hK => ?_); go_simp; refine hK _ _ ?_; clear hK K
        refine wpList_step (fun K hK => ?_); go_simp; refine hK _ _ ?_; clear hK K
        refine wpList_nil ?_
        refine ‹∀ (a' : Act) (w' : World), Handed _ gk a' w' → _› _ _ ?_
        go_roundg (gk - 1)
        case measure => have := HIK.out; omega
        case rel => exact ⟨(i : Int) + 1, i + 1, by rw [show IntKind.i64.wrap ((i : Int) + 1) = (i : Int) + 1 from by go_arith], Lib.hid (by omega), Lib.hid (by have := HIK.out; omega), HDn⟩
      · obtain rfl : i = m := by omega
        subst hz
        clear hlt HIK hA hC hB'
        have HBR := Lib.hid (HB8.out.trans (HD.out.mono HB8.out.size))
        have HMR := Lib.hid hMB
        obtain ⟨bx0, bx1, bx2, bx3, bx4, bx5⟩ := hMB
        clear HK HB8 HD
        by_cases h3 : 3 < (i : Int)
        · go_wp2_with fail
          refine (sane_any _).mono ?_
          rintro e w99 ⟨rfl, hb⟩
          have D99 := HBR.out.trans (hb.mono HBR.out.size)
          clear hb
          go_wp2_with fail
          go_returns
          exact ⟨rfl, D99⟩
        have hi3 : i ≤ 3 := by omega
        obtain ⟨u10, u11⟩ := u1
        obtain ⟨u20, u21⟩ := u2
        go_upto_region 21 with fail
        go_region
        go_upto_region 22 with fail
        have HBS : Hid (Below w.heap.size w wr.drew) := Lib.hid HBR.out.drew
        have HMS : Hid (MoreB wr.drew w.heap.size (.slice ao i cap) (.slice bo i dap) (.slice (some ⟨bC, oC, none⟩) i fap) a0 a1 a2) := Lib.hid HMR.out
        clear HBR HMR bx0 bx1 bx2 bx3 bx4 bx5
        generalize wr.drew = ws at *
        obtain ⟨bx0, bx1, bx2, bx3, bx4, bx5⟩ := HMS.out
        have hs1 : 0 ≤ 100 * a1 ∧ 100 * a1 ≤ 25500 := by omega
        have ht1 : 0 ≤ a2 % 10 ∧ a2 % 10 ≤ 9 := by omega
        obtain ⟨sl, hsl⟩ : ∃ sl, 100 * a1 = sl := ⟨_, rfl⟩
        obtain ⟨tp, htp⟩ : ∃ tp, a2 % 10 = tp := ⟨_, rfl⟩
        simp only [hsl, htp]
        rw [hsl] at hs1
        rw [htp] at ht1
        clear hsl htp u10 u11 u20 u21 u00 u01 hmm hmm2
        obtain ⟨s0, s1⟩ := hs1
        obtain ⟨t0, t1⟩ := ht1
        have HIB' : Hid (inB i B i (-1000000) 1000000 = true) := Lib.hid (Bool.and_eq_true _ _ ▸ HBA.out).1
        have HE5 := Lib.hid (ch_end (s := sl) (top := tp) HBK.out (arg3 HIB'.out (by omega) (by omega) (by omega) (by omega)) hi3)
        have HE6 := Lib.hid (ch_end (s := sl + 50) (top := tp) HBK.out (arg3 HIB'.out (by omega) (by omega) (by omega) (by omega)) hi3)
        have HE7 := Lib.hid (ch_end (s := sl) (top := tp + 2) HBK.out (arg3 HIB'.out (by omega) (by omega) (by omega) (by omega)) hi3)
        cases hch : chP i F B sl tp with
        | none =>
          have HE8 : Hid (chE i l F i B sl tp = 62) := Lib.hid (by rw [HE5.out, hch]; rfl)
          clear hch
          go_wp2_with fail
          refine (hCh_62 HE8.out hN (HG.out.keep HBS.out) hm (HI.out.keep HBS.out)).mono ?_
          rintro e w9 ⟨⟨p9, c9, rfl⟩, hb⟩
          have HB9 := Lib.hid (HBS.out.trans (hb.mono HBS.out.size))
          clear hb bx0 bx1 bx2 bx3 bx4 bx5 HMS HBS
          go_wp2_with fail
          refine (sane_any _).mono ?_
          rintro e w99 ⟨rfl, hb⟩
          have D99 := HB9.out.trans (hb.mono HB9.out.size)
          clear hb
          go_wp2_with fail
          go_returns
          exact ⟨rfl, D99⟩
        | some bp =>
          have HE8 : Hid (chE i l F i B sl tp = 0) := Lib.hid (by rw [HE5.out, hch]; rfl)
          have HPB : Hid (opL (chP i F B sl tp) = bp) := Lib.hid (by rw [hch]; rfl)
          obtain ⟨bq, hbq, hlq⟩ := chP_more (s' := sl + 50) (top' := tp) hi3 t0 (by omega) (by omega) (by omega) hch
          obtain ⟨br, hbr, hlr⟩ := chP_more (s' := sl) (top' := tp + 2) hi3 t0 (by omega) (by omega) (by omega) hch
          have HE9 : Hid (chE i l F i B (sl + 50) tp = 0) := Lib.hid (by rw [HE6.out, hbq]; rfl)
          have HE10 : Hid (chE i l F i B sl (tp + 2) = 0) := Lib.hid (by rw [HE7.out, hbr]; rfl)
          have HQB : Hid (opL (chP i F B (sl + 50) tp) = bq) := Lib.hid (by rw [hbq]; rfl)
          have HRB : Hid (opL (chP i F B sl (tp + 2)) = br) := Lib.hid (by rw [hbr]; rfl)
          obtain ⟨_, Rbp, Zbp⟩ := (chP_least hi3 (show 0 ≤ tp by omega) (by omega)).1 bp hch
          have HRbp : Hid (∀ j, j < i → (bp j).natAbs ≤ 1000000000000) := Lib.hid (fun j _ => by have := Rbp j; omega)
          obtain ⟨sbp, hsbp⟩ : ∃ z, sumI bp i = z := ⟨_, rfl⟩
          have HSbp := Lib.hid hsbp
          rw [sm_sum hN5 Zbp] at hsbp
          obtain ⟨_, Rbq, Zbq⟩ := (chP_least hi3 (show 0 ≤ tp by omega) (by omega)).1 bq hbq
          have HRbq : Hid (∀ j, j < i → (bq j).natAbs ≤ 1000000000000) := Lib.hid (fun j _ => by have := Rbq j; omega)
          obtain ⟨sbq, hsbq⟩ : ∃ z, sumI bq i = z := ⟨_, rfl⟩
          have HSbq := Lib.hid hsbq
          rw [sm_sum hN5 Zbq] at hsbq
          obtain ⟨_, Rbr, Zbr⟩ := (chP_least hi3 (show 0 ≤ (tp + 2) by omega) (by omega)).1 br hbr
          have HRbr : Hid (∀ j, j < i → (br j).natAbs ≤ 1000000000000) := Lib.hid (fun j _ => by have := Rbr j; omega)
          obtain ⟨sbr, hsbr⟩ : ∃ z, sumI br i = z := ⟨_, rfl⟩
          have HSbr := Lib.hid hsbr
          rw [sm_sum hN5 Zbr] at hsbr
          rw [hsbq, hsbp] at hlq
          rw [hsbr, hsbp] at hlr
          clear hch hbq hbr Rbp Rbq Rbr Zbp Zbq Zbr hsbp hsbq hsbr
          go_wp2_with fail
          refine (hCh_0 HE8.out hN (HG.out.keep HBS.out) hm (HI.out.keep HBS.out)).mono ?_
          rw [HPB.out]
          rintro e w10 ⟨⟨p0, c0, rfl, hi0⟩, hb⟩
          have HJ0 := Lib.hid hi0
          have HB10 := Lib.hid (HBS.out.trans (hb.mono HBS.out.size))
          have HM10 := Lib.hid (HMS.out.keep hb)
          clear hb hi0 HBS HMS bx0 bx1 bx2 bx3 bx4 bx5
          obtain ⟨bx0, bx1, bx2, bx3, bx4, bx5⟩ := HM10.out
          go_wp2_with fail
          refine (hCh_0 HE9.out hN (HG.out.keep HB10.out) hm (HI.out.keep HB10.out)).mono ?_
          rw [HQB.out]
          rintro e w11 ⟨⟨p1, c1, rfl, hi1⟩, hb⟩
          have HJ1 := Lib.hid hi1
          replace HJ0 := Lib.hid (HJ0.out.keep hb)
          have HB11 := Lib.hid (HB10.out.trans (hb.mono HB10.out.size))
          have HM11 := Lib.hid (HM10.out.keep hb)
          clear hb hi1 HB10 HM10 bx0 bx1 bx2 bx3 bx4 bx5
          obtain ⟨bx0, bx1, bx2, bx3, bx4, bx5⟩ := HM11.out
          go_wp2_with fail
          refine (hCh_0 HE10.out hN (HG.out.keep HB11.out) hm (HI.out.keep HB11.out)).mono ?_
          rw [HRB.out]
          rintro e w12 ⟨⟨p2, c2, rfl, hi2⟩, hb⟩
          have HJ2 := Lib.hid hi2
          replace HJ0 := Lib.hid (HJ0.out.keep hb)
          replace HJ1 := Lib.hid (HJ1.out.keep hb)
          have HB12 := Lib.hid (HB11.out.trans (hb.mono HB11.out.size))
          have HM12 := Lib.hid (HM11.out.keep hb)
          clear hb hi2 HB11 HM11 bx0 bx1 bx2 bx3 bx4 bx5
          obtain ⟨bx0, bx1, bx2, bx3, bx4, bx5⟩ := HM12.out
          go_wp2_with fail
          refine (lSum_any i c1 p1 bq _ (by omega) HJ1.out HRbq.out).mono ?_
          rw [HSbq.out]
          rintro e w13 ⟨rfl, hb⟩
          replace HJ0 := Lib.hid (HJ0.out.keep hb)
          replace HJ1 := Lib.hid (HJ1.out.keep hb)
          replace HJ2 := Lib.hid (HJ2.out.keep hb)
          have HB13 := Lib.hid (HB12.out.trans (hb.mono HB12.out.size))
          clear hb HB12
          go_wp2_with fail
          refine (lSum_any i c0 p0 bp _ (by omega) HJ0.out HRbp.out).mono ?_
          rw [HSbp.out]
          rintro e w14 ⟨rfl, hb⟩
          replace HJ0 := Lib.hid (HJ0.out.keep hb)
          replace HJ1 := Lib.hid (HJ1.out.keep hb)
          replace HJ2 := Lib.hid (HJ2.out.keep hb)
          have HB14 := Lib.hid (HB13.out.trans (hb.mono HB13.out.size))
          clear hb HB13
          go_wp2_with fail
          refine (lSum_any i c2 p2 br _ (by omega) HJ2.out HRbr.out).mono ?_
          rw [HSbr.out]
          rintro e w15 ⟨rfl, hb⟩
          replace HJ0 := Lib.hid (HJ0.out.keep hb)
          replace HJ1 := Lib.hid (HJ1.out.keep hb)
          replace HJ2 := Lib.hid (HJ2.out.keep hb)
          have HB15 := Lib.hid (HB14.out.trans (hb.mono HB14.out.size))
          clear hb HB14
          go_wp2_with fail
          refine (lSum_any i c0 p0 bp _ (by omega) HJ0.out HRbp.out).mono ?_
          rw [HSbp.out]
          rintro e w16 ⟨rfl, hb⟩
          replace HJ0 := Lib.hid (HJ0.out.keep hb)
          replace HJ1 := Lib.hid (HJ1.out.keep hb)
          replace HJ2 := Lib.hid (HJ2.out.keep hb)
          have HB16 := Lib.hid (HB15.out.trans (hb.mono HB15.out.size))
          clear hb HB15
          go_wp2_with fail
          refine (sane_any _).mono ?_
          rintro e w99 ⟨rfl, hb⟩
          have D99 := HB16.out.trans (hb.mono HB16.out.size)
          clear hb
          go_wp2_with fail
          go_returns
          exact ⟨rfl, D99⟩
  · have HE2 : Hid (lsE m l F m B m (updI C x (C x + 1)) = 2) := Lib.hid (ls_arg HBK.out (by
      have hf : inB m (updI C x (C x + 1)) m 0 1000 = false := by
        rw [Bool.eq_false_iff]
        intro h
        have h2 := (inB_iff.1 h).2 x hxm
        rw [updI_at] at h2
        have := HCX.out
        omega
      rw [hf, Bool.and_false]))
    go_wp2_with fail
    refine (hPh_2 HE2.out hN (HG.out.keep HB5.out) hm (HI.out.keep HB5.out) hk (HCN.out.ints (g := g9))).mono ?_
    rintro e w6 ⟨⟨sb, cb, rfl⟩, hb⟩
    have HIA6 := Lib.hid (HIN.out.keep hb)
    have HC6 := Lib.hid (HCN.out.keep hb)
    have HB6 := Lib.hid (HB5.out.trans (hb.mono HB5.out.size))
    have HM6 := Lib.hid (HM5.out.keep hb)
    clear hb HB5 HM5 HIN HCN bx0 bx1 bx2 bx3 bx4 bx5
    obtain ⟨bx0, bx1, bx2, bx3, bx4, bx5⟩ := HM6.out
    have HE3 : Hid (lsE m l F m B m (fun _ => 0) = 0) := Lib.hid (ls_ok HBK.out (by rw [Bool.and_eq_true]; exact ⟨(Bool.and_eq_true _ _ ▸ HBA.out).1, inB_iff.2 ⟨rfl, fun j hj => by omega⟩⟩))
    go_upto_region 11 with fail
    have D0 : Below w6.heap.size w6 w6.drew := (Below.refl _ _).drew
    refine wp_region_held_drew (S := fun w' => MoreB w' w.heap.size (.slice ao m cap) (.slice bo m dap) (.slice (some ⟨bC, oC, none⟩) m fap) a0 a1 a2) (by kernel_rfl) (HM6.out.keep D0) (fun hHeld => ?_)
    refine wpAnyH_take (i := 0) (oi := _) (v := ?_) rfl (by kernel_rfl) (by kernel_rfl) (by kernel_rfl) (fun _ _ _ h => h) (Or.inl ⟨by rfl, ?_⟩) (by assumption) ?_
    rotate_left
    · intro w hSw; obtain ⟨_, _, _, _, _, _⟩ := hSw; go_simp; (try with_reducible rfl)
    try change wpAnyH _ _ _ _ _ _ _ (Act.put _ (some 107) _) _
    try simp only [act_all]
    refine wpAnyH_take (i := 1) (oi := _) (v := ?_) rfl (by kernel_rfl) (by kernel_rfl) (by kernel_rfl) (fun _ _ _ h => h) (Or.inl ⟨by rfl, ?_⟩) (by assumption) ?_
    rotate_left
    · intro w hSw; obtain ⟨_, _, _, _, _, _⟩ := hSw; go_simp; (try with_reducible rfl)
    try change wpAnyH _ _ _ _ _ _ _ (Act.put _ (some 108) _) _
    try simp only [act_all]
    refine wpAnyH_take (i := 2) (oi := _) (v := ?_) rfl (by kernel_rfl) (by kernel_rfl) (by kernel_rfl) (fun _ _ _ h => h) (Or.inl ⟨by rfl, ?_⟩) (by assumption) ?_
    rotate_left
    · intro w hSw; obtain ⟨_, _, _, _, _, _⟩ := hSw; go_simp; (try with_reducible rfl)
    try change wpAnyH _ _ _ _ _ _ _ (Act.put _ (some 109) _) _
    try simp only [act_all]
    refine wpAnyH_take (i := 3) (oi := _) (v := ?_) rfl (by kernel_rfl) (by kernel_rfl) (by kernel_rfl) (fun _ _ _ h => h) (Or.inl ⟨by rfl, ?_⟩) (by assumption) ?_
    rotate_left
    · intro w hSw; obtain ⟨_, _, _, _, _, _⟩ := hSw; go_simp; (try with_reducible rfl)
    try change wpAnyH _ _ _ _ _ _ _ (Act.put _ (some 110) _) _
    try simp only [act_all]
    refine wpAnyH_take (i := 4) (oi := _) (v := ?_) rfl (by kernel_rfl) (by kernel_rfl) (by kernel_rfl) (fun _ _ _ h => h) (Or.inl ⟨by rfl, ?_⟩) (by assumption) ?_
    rotate_left
    · intro w hSw; obtain ⟨_, _, _, _, _, _⟩ := hSw; go_simp; (try with_reducible rfl)
    try change wpAnyH _ _ _ _ _ _ _ (Act.put _ (some 111) _) _
    try simp only [act_all]
    refine wpAnyH_ready (rs := [5]) (by kernel_rfl) (by simp) ?_
    refine AllReadyH.cons (o := _) rfl (fun K hK => ?_) AllReadyH.nil
    refine step_make_full (by rfl) _ _ 24 (by rfl) w6.drew.heap.size 3 i0 _ 1 Try.underlying24 HINF.out.1 HINF.out.2.1 HINF.out.2.2.1 .i64 .i64 m (by rfl) (by rfl) (by rw [HINF.out.2.2.2]; omega) (by unfold maxLen; omega) (Nat.le_refl _) ?_
    intro w7 hown hgrow
    have HZ7 : Hid (Intw w7 w6.drew.heap.size m (fun _ => 0)) := Lib.hid (Intw.of_own hown fun i hi => by rw [Nat.mul_one]; exact made_get m i hi)
    have D7a : Below w6.drew.heap.size w6.drew w7 := Below.grown (Below.refl _ _) hgrow (Nat.le_refl _) (fun k hk => by cases hk)
    have D7 : Below w6.heap.size w6 w7 := D0.trans (D7a.mono D0.size)
    clear hown hgrow D7a
    refine hK.out _ _ (HM6.out.keep D7) (fun hHeld => ?_)
    clear hK K
    try simp only [act_all]
    refine wpAnyH_ready (rs := [6]) (by kernel_rfl) (by simp) ?_
    refine AllReadyH.cons (o := _) rfl (fun K hK => ?_) AllReadyH.nil
    go_simp
    refine (hPh_0 HE3.out hN (HG.out.keep (HB6.out.trans (D7.mono HB6.out.size))) hm (HI.out.keep (HB6.out.trans (D7.mono HB6.out.size))) hk HZ7.out.ints).mono ?_
    rintro e w8 ⟨⟨sc, cc, rfl, hic⟩, hb⟩
    have HIC8 := Lib.hid hic
    have D8 : Below w6.heap.size w6 w8 := D7.trans (hb.mono D7.size)
    clear hb hic
    refine hK.out _ _ (HM6.out.keep D8) (fun hHeld => ?_)
    clear hK K
    try simp only [act_all]
    refine wpAnyH_take (i := 7) (oi := _) (v := ?_) rfl (by kernel_rfl) (by kernel_rfl) (by kernel_rfl) (fun _ _ _ h => h) (Or.inl ⟨by rfl, ?_⟩) (by assumption) ?_
    rotate_left
    · intro w hSw; obtain ⟨_, _, _, _, _, _⟩ := hSw; go_simp; (try with_reducible rfl)
    try change wpAnyH _ _ _ _ _ _ _ (Act.put _ (some 106) _) _
    try simp only [act_all]
    refine wpAnyH_take (i := 8) (oi := _) (v := ?_) rfl (by kernel_rfl) (by kernel_rfl) (by kernel_rfl) (fun _ _ _ h => h) (Or.inl ⟨by rfl, ?_⟩) (by assumption) ?_
    rotate_left
    · intro w hSw; obtain ⟨_, _, _, _, _, _⟩ := hSw; go_simp; (try with_reducible rfl)
    try change wpAnyH _ _ _ _ _ _ _ (Act.put _ (some 114) _) _
    try simp only [act_all]
    refine wpAnyH_take (i := 9) (oi := _) (v := ?_) rfl (by kernel_rfl) (by kernel_rfl) (by kernel_rfl) (fun _ _ _ h => h) (Or.inl ⟨by rfl, ?_⟩) (by assumption) ?_
    rotate_left
    · intro w hSw; obtain ⟨_, _, _, _, _, _⟩ := hSw; go_simp; (try with_reducible rfl)
    try change wpAnyH _ _ _ _ _ _ _ (Act.put _ (some 115) _) _
    try simp only [act_all]
    refine wpAnyH_take (i := 10) (oi := _) (v := ?_) rfl (by kernel_rfl) (by kernel_rfl) (by kernel_rfl) (fun _ _ _ h => h) (Or.inl ⟨by rfl, ?_⟩) (by assumption) ?_
    rotate_left
    · intro w hSw; obtain ⟨_, _, _, _, _, _⟩ := hSw; go_simp; (try with_reducible rfl)
    try change wpAnyH _ _ _ _ _ _ _ (Act.put _ (some 12) _) _
    try simp only [act_all]
    refine wpAnyH_take (i := 11) (oi := _) (v := ?_) rfl (by kernel_rfl) (by kernel_rfl) (by kernel_rfl) (fun _ _ _ h => h) (Or.inl ⟨by rfl, ?_⟩) (by assumption) ?_
    rotate_left
    · intro w hSw; obtain ⟨_, _, _, _, _, _⟩ := hSw; go_simp; (try with_reducible rfl)
    try change wpAnyH _ _ _ _ _ _ _ (Act.put _ (some 13) _) _
    try simp only [act_all]
    refine wpAnyH_done (by kernel_rfl) ?_ _
    clear hHeld bx0 bx1 bx2 bx3 bx4 bx5
    have HM8 := Lib.hid (HM6.out.keep D8)
    have HB8 := Lib.hid (HB6.out.trans (D8.mono HB6.out.size))
    have HIA8 := Lib.hid (HIA6.out.keep D8)
    have HC8 := Lib.hid (HC6.out.keep D8)
    clear D8 D7 D0 HZ7 HM6 HB6 HIA6 HC6
    obtain ⟨m0, _⟩ := HC8.out x hxm
    rw [updI_at, HY.out] at m0
    obtain ⟨bx0, bx1, bx2, bx3, bx4, bx5⟩ := HM8.out
    go_wp2_with fail
    have HK : Hid (∀ w', Below w8.heap.size w8 w' → MoreB w' w.heap.size (.slice ao m cap) (.slice bo m dap) (.slice (some ⟨bC, oC, none⟩) m fap) a0 a1 a2 ∧ Ints w' sa m (phL m F B C) ∧ Ints w' sc m (phL m F B (fun _ => 0))) := Lib.hid (fun w' hb => ⟨HM8.out.keep hb, HIA8.out.keep hb, HIC8.out.keep hb⟩)
    clear HM8 HIA8 HIC8 HC8 bx0 bx1 bx2 bx3 bx4 bx5 m0
    go_loopg [14] m (fun k iv wr => ∃ (z : Int) (i : Nat), iv = .int .i64 z ∧ Hid (z = i) ∧ Hid (i + k = m) ∧ Hid (Below w8.heap.size w8 wr))
    case atStart => exact ⟨0, 0, rfl, Lib.hid (by omega), Lib.hid (by omega), Lib.hid (Below.refl _ _)⟩
    case round =>
      obtain ⟨z, i, rfl, HZ, HIK, HD⟩ := hrel
      have hz := HZ.out
      have hi : i ≤ m := by have := HIK.out; omega
      clear HZ
      obtain ⟨hMB, hA, hC⟩ := HK.out _ HD.out
      by_cases hlt : i < m
      · have hlt' : z < (m : Int) := by omega
        subst hz
        have i00 : (0 : Int) ≤ (i : Int) := by omega
        have wz : wrap64 ((i : Int) + 1) = (i : Int) + 1 := by simp only [wrap64]; omega
        have HBW := Lib.hid (HB8.out.trans (HD.out.mono HB8.out.size))
        obtain ⟨b1, o1, rfl, hc1⟩ := hA (by omega)
        obtain ⟨b3, o3, rfl, hc3⟩ := hC (by omega)
        obtain ⟨b4, o4, rfl, hc4⟩ := HI.out (by omega)
        obtain ⟨b5, o5, b6, o6, rfl, hbl, hrow, hb6l, hcl⟩ := HRA.out i hlt
        have g1 := hc1 i hlt
        have g3 := hc3 i hlt
        have g4 := (HBW.out.cell (p := ⟨b4, o4 + i, none⟩) (World.block_lt_of_cell? w _ (hc4 i hlt))).trans (hc4 i hlt)
        have g5 := (HBW.out.cell (p := ⟨b5, o5 + i, none⟩) hbl).trans hrow
        have g6 := (HBW.out.cell (p := ⟨b6, o6 + x, none⟩) hb6l).trans (hcl x hxm)
        obtain ⟨bx0, bx1, bx2, bx3, bx4, bx5⟩ := hMB
        have hr3 : (phL m F B (fun _ => 0) i - B i).tmod 1000000 = 0 := ph_base
        have hq1 : 0 ≤ phL m F B C i ∧ phL m F B C i < 1000000 := by unfold phL; omega
        have hq3 : 0 ≤ phL m F B (fun _ => 0) i ∧ phL m F B (fun _ => 0) i < 1000000 := by unfold phL; omega
        have hq4 := HBI.out i hlt
        have hq6 := HF.out i hlt x hxm
        obtain ⟨p1, hp1⟩ : ∃ p1, phL m F B C i = p1 := ⟨_, rfl⟩
        obtain ⟨p3, hp3⟩ : ∃ p3, phL m F B (fun _ => 0) i = p3 := ⟨_, rfl⟩
        obtain ⟨p4, hp4⟩ : ∃ p4, B i = p4 := ⟨_, rfl⟩
        obtain ⟨p6, hp6⟩ : ∃ p6, F i x = p6 := ⟨_, rfl⟩
        rw [hp1] at g1 hq1
        rw [hp3] at g3 hr3 hq3
        rw [hp4] at g4 hr3 hq4
        rw [hp6] at g6 hq6
        have e3 : IntKind.i64.wrap (p3 - p4) = p3 - p4 := by clear wz; go_arith
        clear hc1 hc3 hc4 hcl hrow hA hC hp1 hp3 hp4 hp6 hq1 hq3 hq4 hq6 HBW
        go_upto_region 17 with fail
        go_quiet (fail)
        have HDn := Lib.hid (drewN_below (n := nq) HD.out)
        generalize wr.drewN nq = wv at *
        clear e3 hr3 g1 g3 g4 g5 g6 bx0 bx1 bx2 bx3 bx4 bx5 hmm hmm2 HK HD
        go_upto_if 189 with fail
        clear wz
        go_upto_region 16 with fail
        refine wp_region_lit ?_
        refine wpList_step (fun K hK => ?_); go_simp; refine hK _ _ ?_; clear hK K
        refine wpList_step (fun K hK => ?_); go_simp; refine hK _ _ ?_; clear hK K
        refine wpList_step (fun K hK => ?_); go_simp; refine hK _ _ ?_; clear hK K
        refine wpList_nil ?_
        refine ‹∀ (a' : Act) (w' : World), Handed _ gk a' w' → _› _ _ ?_
        go_roundg (gk - 1)
        case measure => have := HIK.out; omega
        case rel => exact ⟨(i : Int) + 1, i + 1, by rw [show IntKind.i64.wrap ((i : Int) + 1) = (i : Int) + 1 from by go_arith], Lib.hid (by omega), Lib.hid (by have := HIK.out; omega), HDn⟩
      · obtain rfl : i = m := by omega
        subst hz
        clear hlt HIK hA hC
        have HBR := Lib.hid (HB8.out.trans (HD.out.mono HB8.out.size))
        have HMR := Lib.hid hMB
        obtain ⟨bx0, bx1, bx2, bx3, bx4, bx5⟩ := hMB
        clear HK HB8 HD
        by_cases h3 : 3 < (i : Int)
        · go_wp2_with fail
          refine (sane_any _).mono ?_
          rintro e w99 ⟨rfl, hb⟩
          have D99 := HBR.out.trans (hb.mono HBR.out.size)
          clear hb
          go_wp2_with fail
          go_returns
          exact ⟨rfl, D99⟩
        have hi3 : i ≤ 3 := by omega
        obtain ⟨u10, u11⟩ := u1
        obtain ⟨u20, u21⟩ := u2
        go_upto_region 21 with fail
        go_region
        go_upto_region 22 with fail
        have HBS : Hid (Below w.heap.size w wr.drew) := Lib.hid HBR.out.drew
        have HMS : Hid (MoreB wr.drew w.heap.size (.slice ao i cap) (.slice bo i dap) (.slice (some ⟨bC, oC, none⟩) i fap) a0 a1 a2) := Lib.hid HMR.out
        clear HBR HMR bx0 bx1 bx2 bx3 bx4 bx5
        generalize wr.drew = ws at *
        obtain ⟨bx0, bx1, bx2, bx3, bx4, bx5⟩ := HMS.out
        have hs1 : 0 ≤ 100 * a1 ∧ 100 * a1 ≤ 25500 := by omega
        have ht1 : 0 ≤ a2 % 10 ∧ a2 % 10 ≤ 9 := by omega
        obtain ⟨sl, hsl⟩ : ∃ sl, 100 * a1 = sl := ⟨_, rfl⟩
        obtain ⟨tp, htp⟩ : ∃ tp, a2 % 10 = tp := ⟨_, rfl⟩
        simp only [hsl, htp]
        rw [hsl] at hs1
        rw [htp] at ht1
        clear hsl htp u10 u11 u20 u21 u00 u01 hmm hmm2
        obtain ⟨s0, s1⟩ := hs1
        obtain ⟨t0, t1⟩ := ht1
        have HIB' : Hid (inB i B i (-1000000) 1000000 = true) := Lib.hid (Bool.and_eq_true _ _ ▸ HBA.out).1
        have HE5 := Lib.hid (ch_end (s := sl) (top := tp) HBK.out (arg3 HIB'.out (by omega) (by omega) (by omega) (by omega)) hi3)
        have HE6 := Lib.hid (ch_end (s := sl + 50) (top := tp) HBK.out (arg3 HIB'.out (by omega) (by omega) (by omega) (by omega)) hi3)
        have HE7 := Lib.hid (ch_end (s := sl) (top := tp + 2) HBK.out (arg3 HIB'.out (by omega) (by omega) (by omega) (by omega)) hi3)
        cases hch : chP i F B sl tp with
        | none =>
          have HE8 : Hid (chE i l F i B sl tp = 62) := Lib.hid (by rw [HE5.out, hch]; rfl)
          clear hch
          go_wp2_with fail
          refine (hCh_62 HE8.out hN (HG.out.keep HBS.out) hm (HI.out.keep HBS.out)).mono ?_
          rintro e w9 ⟨⟨p9, c9, rfl⟩, hb⟩
          have HB9 := Lib.hid (HBS.out.trans (hb.mono HBS.out.size))
          clear hb bx0 bx1 bx2 bx3 bx4 bx5 HMS HBS
          go_wp2_with fail
          refine (sane_any _).mono ?_
          rintro e w99 ⟨rfl, hb⟩
          have D99 := HB9.out.trans (hb.mono HB9.out.size)
          clear hb
          go_wp2_with fail
          go_returns
          exact ⟨rfl, D99⟩
        | some bp =>
          have HE8 : Hid (chE i l F i B sl tp = 0) := Lib.hid (by rw [HE5.out, hch]; rfl)
          have HPB : Hid (opL (chP i F B sl tp) = bp) := Lib.hid (by rw [hch]; rfl)
          obtain ⟨bq, hbq, hlq⟩ := chP_more (s' := sl + 50) (top' := tp) hi3 t0 (by omega) (by omega) (by omega) hch
          obtain ⟨br, hbr, hlr⟩ := chP_more (s' := sl) (top' := tp + 2) hi3 t0 (by omega) (by omega) (by omega) hch
          have HE9 : Hid (chE i l F i B (sl + 50) tp = 0) := Lib.hid (by rw [HE6.out, hbq]; rfl)
          have HE10 : Hid (chE i l F i B sl (tp + 2) = 0) := Lib.hid (by rw [HE7.out, hbr]; rfl)
          have HQB : Hid (opL (chP i F B (sl + 50) tp) = bq) := Lib.hid (by rw [hbq]; rfl)
          have HRB : Hid (opL (chP i F B sl (tp + 2)) = br) := Lib.hid (by rw [hbr]; rfl)
          obtain ⟨_, Rbp, Zbp⟩ := (chP_least hi3 (show 0 ≤ tp by omega) (by omega)).1 bp hch
          have HRbp : Hid (∀ j, j < i → (bp j).natAbs ≤ 1000000000000) := Lib.hid (fun j _ => by have := Rbp j; omega)
          obtain ⟨sbp, hsbp⟩ : ∃ z, sumI bp i = z := ⟨_, rfl⟩
          have HSbp := Lib.hid hsbp
          rw [sm_sum hN5 Zbp] at hsbp
          obtain ⟨_, Rbq, Zbq⟩ := (chP_least hi3 (show 0 ≤ tp by omega) (by omega)).1 bq hbq
          have HRbq : Hid (∀ j, j < i → (bq j).natAbs ≤ 1000000000000) := Lib.hid (fun j _ => by have := Rbq j; omega)
          obtain ⟨sbq, hsbq⟩ : ∃ z, sumI bq i = z := ⟨_, rfl⟩
          have HSbq := Lib.hid hsbq
          rw [sm_sum hN5 Zbq] at hsbq
          obtain ⟨_, Rbr, Zbr⟩ := (chP_least hi3 (show 0 ≤ (tp + 2) by omega) (by omega)).1 br hbr
          have HRbr : Hid (∀ j, j < i → (br j).natAbs ≤ 1000000000000) := Lib.hid (fun j _ => by have := Rbr j; omega)
          obtain ⟨sbr, hsbr⟩ : ∃ z, sumI br i = z := ⟨_, rfl⟩
          have HSbr := Lib.hid hsbr
          rw [sm_sum hN5 Zbr] at hsbr
          rw [hsbq, hsbp] at hlq
          rw [hsbr, hsbp] at hlr
          clear hch hbq hbr Rbp Rbq Rbr Zbp Zbq Zbr hsbp hsbq hsbr
          go_wp2_with fail
          refine (hCh_0 HE8.out hN (HG.out.keep HBS.out) hm (HI.out.keep HBS.out)).mono ?_
          rw [HPB.out]
          rintro e w10 ⟨⟨p0, c0, rfl, hi0⟩, hb⟩
          have HJ0 := Lib.hid hi0
          have HB10 := Lib.hid (HBS.out.trans (hb.mono HBS.out.size))
          have HM10 := Lib.hid (HMS.out.keep hb)
          clear hb hi0 HBS HMS bx0 bx1 bx2 bx3 bx4 bx5
          obtain ⟨bx0, bx1, bx2, bx3, bx4, bx5⟩ := HM10.out
          go_wp2_with fail
          refine (hCh_0 HE9.out hN (HG.out.keep HB10.out) hm (HI.out.keep HB10.out)).mono ?_
          rw [HQB.out]
          rintro e w11 ⟨⟨p1, c1, rfl, hi1⟩, hb⟩
          have HJ1 := Lib.hid hi1
          replace HJ0 := Lib.hid (HJ0.out.keep hb)
          have HB11 := Lib.hid (HB10.out.trans (hb.mono HB10.out.size))
          have HM11 := Lib.hid (HM10.out.keep hb)
          clear hb hi1 HB10 HM10 bx0 bx1 bx2 bx3 bx4 bx5
          obtain ⟨bx0, bx1, bx2, bx3, bx4, bx5⟩ := HM11.out
          go_wp2_with fail
          refine (hCh_0 HE10.out hN (HG.out.keep HB11.out) hm (HI.out.keep HB11.out)).mono ?_
          rw [HRB.out]
          rintro e w12 ⟨⟨p2, c2, rfl, hi2⟩, hb⟩
          have HJ2 := Lib.hid hi2
          replace HJ0 := Lib.hid (HJ0.out.keep hb)
          replace HJ1 := Lib.hid (HJ1.out.keep hb)
          have HB12 := Lib.hid (HB11.out.trans (hb.mono HB11.out.size))
          have HM12 := Lib.hid (HM11.out.keep hb)
          clear hb hi2 HB11 HM11 bx0 bx1 bx2 bx3 bx4 bx5
          obtain ⟨bx0, bx1, bx2, bx3, bx4, bx5⟩ := HM12.out
          go_wp2_with fail
          refine (lSum_any i c1 p1 bq _ (by omega) HJ1.out HRbq.out).mono ?_
          rw [HSbq.out]
          rintro e w13 ⟨rfl, hb⟩
          replace HJ0 := Lib.hid (HJ0.out.keep hb)
          replace HJ1 := Lib.hid (HJ1.out.keep hb)
          replace HJ2 := Lib.hid (HJ2.out.keep hb)
          have HB13 := Lib.hid (HB12.out.trans (hb.mono HB12.out.size))
          clear hb HB12
          go_wp2_with fail
          refine (lSum_any i c0 p0 bp _ (by omega) HJ0.out HRbp.out).mono ?_
          rw [HSbp.out]
          rintro e w14 ⟨rfl, hb⟩
          replace HJ0 := Lib.hid (HJ0.out.keep hb)
          replace HJ1 := Lib.hid (HJ1.out.keep hb)
          replace HJ2 := Lib.hid (HJ2.out.keep hb)
          have HB14 := Lib.hid (HB13.out.trans (hb.mono HB13.out.size))
          clear hb HB13
          go_wp2_with fail
          refine (lSum_any i c2 p2 br _ (by omega) HJ2.out HRbr.out).mono ?_
          rw [HSbr.out]
          rintro e w15 ⟨rfl, hb⟩
          replace HJ0 := Lib.hid (HJ0.out.keep hb)
          replace HJ1 := Lib.hid (HJ1.out.keep hb)
          replace HJ2 := Lib.hid (HJ2.out.keep hb)
          have HB15 := Lib.hid (HB14.out.trans (hb.mono HB14.out.size))
          clear hb HB14
          go_wp2_with fail
          refine (lSum_any i c0 p0 bp _ (by omega) HJ0.out HRbp.out).mono ?_
          rw [HSbp.out]
          rintro e w16 ⟨rfl, hb⟩
          replace HJ0 := Lib.hid (HJ0.out.keep hb)
          replace HJ1 := Lib.hid (HJ1.out.keep hb)
          replace HJ2 := Lib.hid (HJ2.out.keep hb)
          have HB16 := Lib.hid (HB15.out.trans (hb.mono HB15.out.size))
          clear hb HB15
          go_wp2_with fail
          refine (sane_any _).mono ?_
          rintro e w99 ⟨rfl, hb⟩
          have D99 := HB16.out.trans (hb.mono HB16.out.size)
          clear hb
          go_wp2_with fail
          go_returns
          exact ⟨rfl, D99⟩
end Go.Proofs.Ytldepffpafccpaa
