import Derived.Test.YtfilofnkiocbeaaLi8
namespace Go.Proofs.Ytfilofnkiocbeaa
open Go.RowKit Ben Prm
/-- How many permutations there are. -/
def fc : Nat → Nat
  | 0 => 1
  | k + 1 => fc k * (k + 1)
theorem fc_pos : ∀ k, 1 ≤ fc k
  | 0 => Nat.le_refl _
  | k + 1 => Nat.mul_pos (fc_pos k) (Nat.succ_pos k)
/-- The permutations of k in order: the number k - 1 is put in at each place, first at the front. -/
def prF : Nat → Nat → Nat → Int
  | 0, _ => fun _ => 0
  | k + 1, t => insF (prF k (t / (k + 1))) (t % (k + 1)) (k : Int)
theorem prF_at (k j i : Nat) (hi : i < k + 1) : prF (k + 1) (j * (k + 1) + i) = insF (prF k j) i (k : Int) := by
  show insF (prF k ((j * (k + 1) + i) / (k + 1))) ((j * (k + 1) + i) % (k + 1)) (k : Int) = _
  rw [Nat.mul_comm j, Nat.mul_add_div (by omega), Nat.mul_add_mod, Nat.div_eq_of_lt hi, Nat.mod_eq_of_lt hi, Nat.add_zero]
def rowsN (A : Nat → Option Addr) (n : Nat) (C : Nat → Nat) (i : Nat) : List Value := (List.range i).map fun j => .slice (A j) n (C j)
theorem rowsN_len (A : Nat → Option Addr) (n : Nat) (C : Nat → Nat) (i : Nat) : (rowsN A n C i).length = i := by simp [rowsN]
theorem rowsN_get (A : Nat → Option Addr) (n : Nat) (C : Nat → Nat) {i j : Nat} (h : j < i) : (rowsN A n C i)[j]? = some (.slice (A j) n (C j)) := by simp [rowsN, h]
theorem rowsN_succ (A : Nat → Option Addr) (n : Nat) (C : Nat → Nat) (i : Nat) : rowsN A n C (i + 1) = rowsN A n C i ++ [.slice (A i) n (C i)] := by simp [rowsN, List.range_succ]
theorem rowsN_congr {A A' : Nat → Option Addr} {n : Nat} {C C' : Nat → Nat} {i : Nat} (h : ∀ j, j < i → A j = A' j ∧ C j = C' j) : rowsN A n C i = rowsN A' n C' i := by
  unfold rowsN
  exact List.map_congr_left fun j hj => by
    have := h j (List.mem_range.1 hj)
    rw [this.1, this.2]
/-- A row of n numbers: nil, or in a block of the call's own. -/
def RowP (w : World) (base top : Nat) (V : Value) (n : Nat) (ao : Option Addr) (c : Nat) (f : Nat → Int) : Prop :=
  n ≤ c ∧ c ≤ 9223372036854775807 ∧ ((n = 0 ∧ ao = none ∧ c = 0) ∨ ∃ g, ao = some ⟨g, 0, none⟩ ∧ Intw w g n f ∧ base ≤ g ∧ g < top ∧ V.ownBlock ≠ some g ∧ 0 < n)
theorem RowP.keep {w w1 : World} {base top : Nat} {V : Value} {n c : Nat} {ao : Option Addr} {f : Nat → Int} (h : RowP w base top V n ao c f) (hb : Below w.heap.size w w1) : RowP w1 base top V n ao c f :=
  ⟨h.1, h.2.1, h.2.2.imp id fun ⟨g, e, a, b⟩ => ⟨g, e, a.keep hb, b⟩⟩
theorem RowP.ints {w : World} {base top : Nat} {V : Value} {n c : Nat} {ao : Option Addr} {f : Nat → Int} (h : RowP w base top V n ao c f) : Ints w ao n f := by
  rcases h.2.2 with ⟨e, _⟩ | ⟨g, e, a, _⟩
  · intro h0; omega
  · rw [e]; exact a.ints
structure RowsN (w : World) (base top : Nat) (V : Value) (i n : Nat) (A : Nat → Option Addr) (C : Nat → Nat) (F : Nat → Nat → Int) : Prop where
  own : w.ownsRow base 28 1 V i (rowsN A n C i)
  row : ∀ j, j < i → RowP w base top V n (A j) (C j) (F j)
  blk : ∀ b, V.ownBlock = some b → b < top
  top : top ≤ w.heap.size
theorem RowsN.nil (w : World) (base n : Nat) (A : Nat → Option Addr) (C : Nat → Nat) (F : Nat → Nat → Int) : RowsN w base w.heap.size (.slice none 0 0) 0 n A C F :=
  ⟨World.ownsRow_nil _ _ _ _, fun j hj => by omega, (fun b h => by cases h), Nat.le_refl _⟩
theorem RowsN.keep {w w1 : World} {base top : Nat} {V : Value} {i n : Nat} {A : Nat → Option Addr} {C : Nat → Nat} {F : Nat → Nat → Int} (h : RowsN w base top V i n A C F) (hb : Below w.heap.size w w1) : RowsN w1 base top V i n A C F :=
  ⟨own_below' h.own hb, fun j hj => (h.row j hj).keep hb, h.blk, Nat.le_trans h.top hb.size⟩
theorem RowsN.base {w : World} {base base' top : Nat} {V : Value} {i n : Nat} {A : Nat → Option Addr} {C : Nat → Nat} {F : Nat → Nat → Int} (h : RowsN w base top V i n A C F) (hb : base' ≤ base) : RowsN w base' top V i n A C F :=
  ⟨⟨h.own.1, h.own.2.imp id fun ⟨g, cap, cur, a, b, c⟩ => ⟨g, cap, cur, a, Nat.le_trans hb b, c⟩⟩, fun j hj => by
    obtain ⟨a, b, c⟩ := h.row j hj
    exact ⟨a, b, c.imp id fun ⟨g, e, p, q, r⟩ => ⟨g, e, p, Nat.le_trans hb q, r⟩⟩, h.blk, h.top⟩
theorem RowsN.congr {w : World} {base top : Nat} {V : Value} {i n : Nat} {A : Nat → Option Addr} {C : Nat → Nat} {F F' : Nat → Nat → Int} (h : RowsN w base top V i n A C F) (e : ∀ j, j < i → ∀ q, q < n → F j q = F' j q) : RowsN w base top V i n A C F' :=
  ⟨h.own, fun j hj => by
    obtain ⟨a, b, c⟩ := h.row j hj
    exact ⟨a, b, c.imp id fun ⟨g, e', p, r⟩ => ⟨g, e', p.congr (e j hj), r⟩⟩, h.blk, h.top⟩
def updA (f : Nat → Option Addr) (j : Nat) (z : Option Addr) : Nat → Option Addr := fun k => if k = j then z else f k
/-- One more row, behind an append. -/
theorem RowsN.append {w w1 : World} {base top : Nat} {V : Value} {i g' cap' g n cap : Nat} {A : Nat → Option Addr} {C : Nat → Nat} {F : Nat → Nat → Int} {f : Nat → Int} (h : RowsN w base top V i n A C F)
    (hn0 : 0 < n) (hw : Intw w g n f) (hn : n ≤ cap) (hc : cap ≤ 9223372036854775807) (hg : top ≤ g) (hb : base ≤ g) (hgl : g < w.heap.size)
    (hown : w1.ownsRow base 28 1 (.slice (some ⟨g', 0, none⟩) (i + 1) cap') (i + 1) (rowsN A n C i ++ [.slice (some ⟨g, 0, none⟩) n cap])) (hgr : w.grownBy w1 V.ownBlock) (hor : V.ownBlock = some g' ∨ w.heap.size ≤ g') (hlt : g' < w1.heap.size) :
    RowsN w1 base w1.heap.size (.slice (some ⟨g', 0, none⟩) (i + 1) cap') (i + 1) n (updA A i (some ⟨g, 0, none⟩)) (updN C i cap) (fun j => if j = i then f else F j) := by
  have hsz : w.heap.size ≤ w1.heap.size := hgr.size
  have hne : V.ownBlock ≠ some g := fun e => by have := h.blk g e; omega
  have ho : ∀ {b : Nat}, b < w.heap.size → V.ownBlock ≠ some b → (Value.slice (some ⟨g', 0, none⟩) (i + 1) cap').ownBlock ≠ some b := fun {b} hb hn e => by
    simp only [Value.ownBlock, Option.some.injEq] at e
    subst e
    rcases hor with h1 | h1
    · exact hn h1
    · omega
  refine ⟨?_, fun j hj => ?_, fun b e => ?_, Nat.le_refl _⟩
  · rw [rowsN_succ, rowsN_congr (A' := A) (C' := C) (fun j hj => by unfold updA updN; rw [if_neg (by omega), if_neg (by omega)]; exact ⟨rfl, rfl⟩)]
    unfold updA updN
    rw [if_pos rfl, if_pos rfl]
    exact hown
  · unfold updA updN
    by_cases e : j = i
    · rw [if_pos e, if_pos e, if_pos e]
      exact ⟨hn, hc, .inr ⟨g, rfl, hw.grown hgr (fun e => hne e.symm), hb, by omega, ho hgl hne, hn0⟩⟩
    · rw [if_neg e, if_neg e, if_neg e]
      obtain ⟨a, b, c⟩ := h.row j (by omega)
      have := h.top
      exact ⟨a, b, c.imp id fun ⟨q, e', p, r, s, t, u⟩ => ⟨q, e', p.grown hgr (fun e => t e.symm), r, by omega, ho (by omega) t, u⟩⟩
  · simp only [Value.ownBlock, Option.some.injEq] at e
    subst e
    exact hlt
set_option maxRecDepth 100000 in
set_option maxHeartbeats 2000000 in
theorem clone_own (n cap : Nat) (ao : Option Addr) (f : Nat → Int) (base top : Nat) (V : Value) (w : World) (hn : n ≤ 64) (hc : RowP w base top V n ao cap f) :
    Calls Try.prog 76 #[.slice ao n cap] w fun e w' => OwnRet_I w.heap.size w' e n (cellsI f n) ∧ Below w.heap.size w w' := by
  obtain ⟨i0, hi, hz0, hz1, hz2⟩ := info_parts infoInt
  have HI := Lib.hid (And.intro hi (And.intro hz0 (And.intro hz1 hz2)))
  have hnil := fun (w : World) (a : Option Addr) (m c : Nat) => Lib.run_eql_slice_nil (P := Try.prog) w 28 3 a m c 0 0 Try.underlying28
  clear hi hz0 hz1 hz2
  rcases hc.2.2 with ⟨rfl, rfl, rfl⟩ | ⟨b, rfl, hc', hb1, hb2, _⟩
  · go_enter Try.func76, Try.ntmps76
    go_wp2_with fail
    go_returns
    exact ⟨⟨_, rfl, World.ownsRow_nil _ _ _ _⟩, Below.refl _ _⟩
  · have HC := Lib.hid hc'
    have HN := Lib.hid hn
    clear hc hc' hn hb1 hb2
    go_enter Try.func76, Try.ntmps76
    go_wp2_with (at_builtin; refine wpList_append_own _ rfl (.tmp 5) (.tmp 6) 28 rfl w.heap.size 3 i0 _ 1 8 Try.underlying28 HI.out.1 HI.out.2.1 HI.out.2.2.1 HI.out.2.2.2 rfl (by decide) _ 0 [] rfl (World.ownsRow_made w #[] 0 (Nat.le_refl _) (by unfold maxLen; omega) rfl) ⟨b, 0, none⟩ n cap (cellsI f n) rfl ?c0 ?c1 ?c2 ?c3 ?c4 ?c5 ?_)
    case c0 => rw [cellsI_len]; omega
    case c1 =>
      intro j u hu
      have hj : j < n := by have := (List.getElem?_eq_some_iff.1 hu).1; rwa [cellsI_len] at this
      rw [cellsI_get f hj] at hu
      rw [Addr.add_lit, ← hu, Nat.zero_add]
      have hb : b < w.heap.size := World.block_lt_of_cell? w _ (HC.out j hj).1
      exact (((Below.refl _ _).alloc (Nat.le_refl _) _).cell (p := ⟨b, j, none⟩) hb).trans (HC.out j hj).1
    case c2 => exact cellsI_one f n
    case c3 => unfold maxLen; have := HN.out; omega
    case c4 => have := HN.out; omega
    case c5 => first | omega | (simp; done) | (simp; omega)
    intro v' w2 hown hgrow _
    (try simp only [Nat.zero_add, List.nil_append] at hown)
    have HW : Hid (OwnRet_I w.heap.size w2 (.returned v') n (cellsI f n)) := Lib.hid ⟨v', rfl, hown⟩
    have D2 : Below w.heap.size w w2 := Below.grown (by go_grown) hgrow (by first | omega | (simp; done) | (simp; omega)) (fun k hk => by simp [Value.ownBlock] at hk; omega)
    clear hown hgrow
    go_wp2_with fail
    go_returns
    exact ⟨HW.out, D2⟩
/-- What permutations gives. -/
def PmsR (B n : Nat) (w : World) (e : Ending) : Prop := ∃ g cap top A C, e = .returned (.slice (some ⟨g, 0, none⟩) (fc n) cap) ∧ RowsN w B top (.slice (some ⟨g, 0, none⟩) (fc n) cap) (fc n) n A C (prF n)
set_option maxRecDepth 100000 in
set_option maxHeartbeats 16000000 in
/-- permutations: all of them, in order. -/
theorem permutations_any (n : Nat) (w : World) (h4 : n ≤ 4) :
    Calls Try.prog 63 #[.int .i64 (n : Int)] w fun e w' => PmsR w.heap.size n w' e ∧ Below w.heap.size w w' := by
  obtain ⟨i2, hi2, hz02, hz12, hz22⟩ := info_parts infoSl
  have HSL := Lib.hid (And.intro hi2 (And.intro hz02 (And.intro hz12 hz22)))
  have HN := Lib.hid h4
  clear hi2 hz02 hz12 hz22 h4
  go_enter Try.func63, Try.ntmps63
  go_wp2_with fail
  go_loopw [3, 11] (fun lv iv wr => ∃ (V : Value) (k top : Nat) (A : Nat → Option Addr) (C : Nat → Nat), V = lv ∧ iv = .int .i64 (k : Int) ∧ k ≤ n ∧ Hid (RowsN wr w.heap.size top V (fc k) k A C (prF k)) ∧ Hid (Below w.heap.size w wr)) (fun _ iv _ => n - (intOf iv).toNat)
  case atStart =>
    refine ⟨_, 0, w.heap.size + 1, fun _ => none, fun _ => 0, rfl, rfl, Nat.zero_le _, Lib.hid ⟨?_, fun j hj => ⟨Nat.le_refl _, by omega, .inl ⟨rfl, rfl, rfl⟩⟩, fun b e => ?_, by simp⟩, Lib.hid ((Below.refl _ _).alloc (Nat.le_refl _) _)⟩
    · exact ⟨rfl, .inr ⟨w.heap.size, 1, _, rfl, Nat.le_refl _, heap_alloc_new w _, Nat.le_refl _, by unfold maxLen; omega, rfl, rfl⟩⟩
    · simp [Value.ownBlock] at e; omega
  case round =>
    obtain ⟨V, k, top, A, C, rfl, rfl, hk, HV, HB⟩ := hrel
    obtain ⟨wo, hw⟩ : ∃ z, z = wr := ⟨wr, rfl⟩
    subst hw
    by_cases hlt : k < n
    · have hlt' : (k : Int) < (n : Int) := by omega
      have k0 : (0 : Int) ≤ (k : Int) := by omega
      have k4 : (k : Int) < 4 := by have := HN.out; omega
      have HK := Lib.hid (And.intro hk hlt)
      clear hk hlt
      obtain ⟨m, hm⟩ : ∃ m, fc k = m := ⟨_, rfl⟩
      have hm1 : 1 ≤ m := by rw [← hm]; exact fc_pos k
      have hm24 : m ≤ 24 := by
        have : k = 0 ∨ k = 1 ∨ k = 2 ∨ k = 3 := by omega
        rw [← hm]
        rcases this with rfl | rfl | rfl | rfl <;> decide
      rw [hm] at HV
      obtain ⟨gl, cl, rfl, hgb, hgs, hgc, hgm⟩ := own_fm HV.out.own hm1
      have HMM := Lib.hid (And.intro hm (And.intro hm1 hm24))
      have HTOP : Hid (top ≤ wo.heap.size) := Lib.hid HV.out.top
      clear hm hgb hgs hgc hgm
      go_wp2_with fail
      go_loopw [5, 16] (fun lv iv wr => ∃ (V' : Value) (j top' : Nat) (A' : Nat → Option Addr) (C' : Nat → Nat), V' = lv ∧ iv = .int .i64 (j : Int) ∧ j ≤ m ∧ Hid (RowsN wr wo.heap.size top' V' (j * (k + 1)) (k + 1) A' C' (prF (k + 1))) ∧ Hid (Below wo.heap.size wo wr)) (fun _ iv _ => m - (intOf iv).toNat)
      case atStart => exact ⟨_, 0, wo.heap.size, fun _ => none, fun _ => 0, rfl, rfl, Nat.zero_le _, Lib.hid (by rw [Nat.zero_mul]; exact RowsN.nil _ _ _ _ _ _), Lib.hid (Below.refl _ _)⟩
      case round =>
        obtain ⟨V', j, top', A', C', rfl, rfl, hj, HV', HB'⟩ := hrel
        obtain ⟨wq, hw⟩ : ∃ z, z = wr := ⟨wr, rfl⟩
        subst hw
        by_cases hlt : j < m
        · have hlt' : (j : Int) < (m : Int) := by omega
          have j0 : (0 : Int) ≤ (j : Int) := by omega
          have jt : (j : Int).toNat = j := by omega
          have j24 : (j : Int) < 24 := by omega
          have HVl := Lib.hid (HV.out.keep HB'.out)
          have HR := Lib.hid (HV.out.row j hlt)
          have c0 : wq.cell? ⟨gl, j, none⟩ = some (.slice (A j) k (C j)) := (HVl.out.own.cellAt j (by omega)).trans (rowsN_get A k C hlt)
          have c1 : wq.frozen? ⟨gl, j, none⟩ = false := HVl.out.own.frozenAt _
          have HJ := Lib.hid (And.intro hj hlt)
          clear hj hlt
          go_wp2_with fail
          go_loopw [5, 22] (fun lv iv wr => ∃ (V' : Value) (i top' : Nat) (A' : Nat → Option Addr) (C' : Nat → Nat), V' = lv ∧ iv = .int .i64 (i : Int) ∧ i ≤ k + 1 ∧ Hid (RowsN wr wo.heap.size top' V' (j * (k + 1) + i) (k + 1) A' C' (prF (k + 1))) ∧ Hid (Below wo.heap.size wo wr)) (fun _ iv _ => (k + 1) - (intOf iv).toNat)
          case atStart => exact ⟨_, 0, top', A', C', rfl, rfl, Nat.zero_le _, HV', HB'⟩
          case round =>
            obtain ⟨V2, i, top2, A2, C2, rfl, rfl, hi, HV2, HB2⟩ := hrel
            clear HV'
            by_cases hlt : i < k + 1
            · have hlt' : (i : Int) < (k : Int) + 1 := by omega
              have i0 : (0 : Int) ≤ (i : Int) := by omega
              have i4 : (i : Int) < 4 := by omega
              have HI := Lib.hid (And.intro hi hlt)
              have hbl := HB2.out
              obtain ⟨N, hN⟩ : ∃ N, j * (k + 1) + i = N := ⟨_, rfl⟩
              have hN1 : N ≤ 200 := by
                have h1 : j * (k + 1) ≤ 24 * 5 := Nat.mul_le_mul (by omega) (by omega)
                omega
              rw [hN] at HV2
              have HNN := Lib.hid (And.intro hN hN1)
              have hs1 := HV2.out.top
              have hs2 := HB2.out.size
              have HSZ : Hid (top2 ≤ wr.heap.size ∧ wo.heap.size ≤ wr.heap.size) := Lib.hid ⟨hs1, by omega⟩
              have HRR := Lib.hid (HR.out.keep hbl)
              clear hi hlt hN hN1 hs1 hs2 hbl c0 c1
              go_wp2_with fail
              refine (clone_own k (C j) (A j) (prF k j) _ _ _ _ (by omega) HRR.out).mono ?_
              rintro e w1 ⟨⟨V3, rfl, hown3⟩, hb1⟩
              have HO3 : Hid ((w1.alloc (.cells #[.int .i64 (k : Int)] 3)).ownsRow wr.heap.size 3 1 V3 k (cellsI (prF k j) k)) := Lib.hid (hown3.alloc _)
              have HNE : Hid (V3.ownBlock ≠ some w1.heap.size) := Lib.hid (fun e => by have := (hown3.lt _ e).2; omega)
              have HB1 := Lib.hid hb1
              clear hown3 hb1
              go_wp2_with fail
              refine (insert_any wr.heap.size k i w1.heap.size 1 V3 (k : Int) (prF k j) _ (by have := HI.out; omega) (by omega) (by have := HB1.out.size; simp; omega) HO3.out (heap_alloc_new w1 _) HNE.out).mono ?_
              rintro e w3 ⟨⟨g3, cap3, rfl, hW3, hg3, hl3, hc3, hm3⟩, hb3⟩
              have D3 : Below wr.heap.size wr w3 := (HB1.out.alloc HB1.out.size _).trans hb3
              have hbr : Below w3.heap.size w3 (w3.alloc (.cells #[.slice (some ⟨g3, 0, none⟩) (k + 1) cap3] 28)) := (Below.refl _ _).alloc (Nat.le_refl _) _
              have HVA := Lib.hid (HV2.out.keep (D3.trans (hbr.mono D3.size)))
              have HWA := Lib.hid (hW3.keep hbr)
              have HG := Lib.hid (And.intro hg3 (And.intro hl3 (And.intro hc3 hm3)))
              have HD3 := Lib.hid (D3.trans (hbr.mono D3.size))
              clear hW3 hg3 hl3 hc3 hm3 hb3 hbr HV2 HO3 HB1 HNE HRR
              go_wp2_with (at_builtin; refine wpList_append_lies _ rfl (.tmp 25) (.tmp 32) 52 rfl wo.heap.size 28 i2 _ 1 24 Try.underlying52 HSL.out.1 HSL.out.2.1 HSL.out.2.2.1 HSL.out.2.2.2 rfl (by decide) V2 N (rowsN A2 (k + 1) C2 N) rfl HVA.out.own ⟨w3.heap.size, 0, none⟩ 1 1 [.slice (some ⟨g3, 0, none⟩) (k + 1) cap3] rfl rfl ?e1 ?e2 (by omega) ?e3 ?e4 ?e5 _ rfl ?_)
              try (case e1 => exact fun j u hu => World.news_of_block (cs := #[.slice (some ⟨g3, 0, none⟩) (k + 1) cap3]) (heap_new w3 _) j u hu)
              try (case e2 => first | (intro u hu; simp only [List.mem_cons, List.not_mem_nil, or_false] at hu; subst hu; rfl) | rfl)
              case e3 => unfold maxLen; have h8 := HNN.out; omega
              case e4 => have h8 := HNN.out; omega
              try (case e5 => have h8 := HSZ.out; have h9 := D3.size; simp; omega)
              intro g' cap2 w5 hown' hgrow hor hlg
              have hlt5 := HVA.out.own.lt
              have HV5 : Hid (RowsN w5 wo.heap.size w5.heap.size (.slice (some ⟨g', 0, none⟩) (N + 1) cap2) (j * (k + 1) + (i + 1)) (k + 1) (updA A2 N (some ⟨g3, 0, none⟩)) (updN C2 N cap3) (prF (k + 1))) := Lib.hid (by
                have h8 := HNN.out
                have h9 := HSZ.out
                have h10 := HG.out
                rw [show j * (k + 1) + (i + 1) = N + 1 by omega]
                exact (HVA.out.append (by omega) HWA.out h10.2.2.1 h10.2.2.2 (by omega) (by omega) (by simp; omega) hown' hgrow (hor.imp id (fun h => by first | exact Nat.le_of_eq h.symm | (simp at h ⊢; omega) | (simp; omega) | omega)) hlg).congr (fun t ht q hq => by
                  by_cases e : t = N
                  · subst e
                    rw [if_pos rfl, ← h8.1, prF_at k j i HI.out.2]
                  · rw [if_neg e]))
              have HB5 : Hid (Below wo.heap.size wo w5) := Lib.hid ((HB2.out.trans (HD3.out.mono HB2.out.size)).grown hgrow (by have h8 := HB2.out.size; have h9 := HD3.out.size; omega) (fun p hp => (hlt5 p hp).1))
              clear hown' hgrow hor hlt5 HVA HWA HD3 D3 hlg HB2
              go_wp2_with fail
              go_roundw
              case rel => exact ⟨_, i + 1, _, _, _, rfl, by first | rfl | go_num, by have h8 := HI.out; omega, HV5, HB5⟩
              case measure => have h8 := HI.out; first | (simp [intOf]; done) | (simp [intOf]; omega)
            · have hki : i = k + 1 := by omega
              subst hki
              have hnl : ¬ (((k + 1 : Nat) : Int) < (k : Int) + 1) := by omega
              have HV6 : Hid (RowsN wr wo.heap.size top2 V2 ((j + 1) * (k + 1)) (k + 1) A2 C2 (prF (k + 1))) := Lib.hid (by rw [Nat.succ_mul]; exact HV2.out)
              have HB6 := HB2
              clear hi hlt HV2 HB2 HB' c0 c1
              go_wp2_with fail
              go_roundw
              case rel => exact ⟨_, j + 1, _, _, _, rfl, by first | rfl | go_num, by have h8 := HJ.out; omega, HV6, HB6⟩
              case measure => have h8 := HJ.out; first | (simp [intOf]; done) | (simp [intOf]; omega)
        · have hjm : j = m := by omega
          subst hjm
          have hnl : ¬ ((j : Int) < (j : Int)) := Int.lt_irrefl _
          have HV6 : Hid (RowsN wq w.heap.size top' V' (fc (k + 1)) (k + 1) A' C' (prF (k + 1))) := Lib.hid (by
            show RowsN wq w.heap.size top' V' (fc k * (k + 1)) (k + 1) A' C' (prF (k + 1))
            rw [HMM.out.1]
            exact HV'.out.base HB.out.size)
          have HB6 : Hid (Below w.heap.size w wq) := Lib.hid (HB.out.trans (HB'.out.mono HB.out.size))
          clear hj hlt HV' HB' HV HB HTOP
          go_wp2_with fail
          go_roundw
          case rel => exact ⟨_, k + 1, _, _, _, rfl, by first | rfl | go_num, by have h8 := HK.out; omega, HV6, HB6⟩
          case measure => have h8 := HK.out; first | (simp [intOf]; done) | (simp [intOf]; omega)
    · have hkn : k = n := by omega
      subst hkn
      have hnl : ¬ ((k : Int) < (k : Int)) := Int.lt_irrefl _
      obtain ⟨gV, cV, rfl, _, _, _, _⟩ := own_fm HV.out.own (fc_pos k)
      have HR : Hid (PmsR w.heap.size k wo (.returned (.slice (some ⟨gV, 0, none⟩) (fc k) cV))) := Lib.hid ⟨gV, cV, top, A, C, rfl, HV.out⟩
      clear HV hk hlt
      go_wp2_with fail
      refine bodyPost_ret (v := .slice (some ⟨gV, 0, none⟩) (fc k) cV) (by simp [results, Try.results63, go_sem]) rfl ⟨HR.out, HB.out⟩
end Go.Proofs.Ytfilofnkiocbeaa
