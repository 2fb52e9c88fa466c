import Derived.Test.YtldepffpafccpaaCp6
import Derived.Test.YtldepffpafccpaaRq6
namespace Go.Proofs.Ytldepffpafccpaa
open Go.RowKit Heat
theorem timT_he2 {N : Nat} {F : Nat → Nat → Int} {p : Nat → Int} {i : Nat} (hi : i < N) (hN : N ≤ 5) : ∀ j, j ≤ N → timT (gnL N N F) p i j = heT F p i j
  | 0, _ => rfl
  | j + 1, h => by
    have h5 : (i * 5 + j) / 5 = i ∧ (i * 5 + j) % 5 = j := by omega
    have hg : gnL N N F (i * 5 + j) = F i j := by unfold gnL; rw [h5.1, h5.2, if_pos ⟨hi, by omega⟩]
    unfold timT heT
    rw [timT_he2 hi hN j (by omega), hg]
/-- Near, over the guides there are. -/
theorem near_eq {N : Nat} {F : Nat → Nat → Int} {B : Nat → Int} {s : Int} {p : Nat → Int} (hN : N ≤ 5) (hs : 0 ≤ s) : nearF N F B s p = inTo (ofL N F B p) (-s) s N := by
  have hlt : ∀ i, i < N → timL N (gnL N N F) p N 0 i - padI N B i = ofL N F B p i := fun i hi => by
    unfold timL padI ofL
    rw [if_pos hi, if_pos hi, timT_he2 hi hN N (Nat.le_refl _)]
  have hge : ∀ i, ¬ i < N → timL N (gnL N N F) p N 0 i - padI N B i = 0 := fun i hi => by
    unfold timL padI
    rw [if_neg hi, if_neg hi]
    split
    · rfl
    · rfl
  unfold nearF
  rw [Bool.eq_iff_iff, inTo_iff, inTo_iff]
  constructor
  · intro h k hk
    have := h k (by omega)
    (try dsimp only at this)
    rw [hlt k hk] at this
    exact this
  · intro h k hk
    (try dsimp only)
    by_cases e : k < N
    · rw [hlt k e]; exact h k e
    · rw [hge k e]; omega
theorem sm_sum {N : Nat} {p : Nat → Int} (hN : N ≤ 5) (hz : ∀ i, N ≤ i → p i = 0) : sumI p N = sm p := by
  rw [← pad_sum p hN]
  have h : ∀ j, padI N p j = p j := fun j => by
    unfold padI
    split
    · rfl
    · exact (hz j (by omega)).symm
  unfold sm
  rw [h, h, h, h, h]
/-- The best list so far, as the reference holds it. -/
def BestS (w : World) (B0 h N : Nat) (V : Value) (o : Option (Nat → Int)) : Prop := match o with
  | none => V = .slice none 0 0
  | some q => ∃ g cap, V = .slice (some ⟨g, 0, none⟩) N cap ∧ Intw w g N q ∧ B0 < g ∧ ¬ g = h ∧ (∀ i, N ≤ i → q i = 0) ∧ ∀ i, 0 ≤ q i ∧ q i ≤ 20
theorem BestS.keep {w w1 : World} {B0 h N : Nat} {V : Value} {o : Option (Nat → Int)} (hs : BestS w B0 h N V o) (hb : Below w.heap.size w w1) : BestS w1 B0 h N V o := by
  cases o with
  | none => exact hs
  | some q =>
    obtain ⟨g, cap, e, hw, h1, h2, h3⟩ := hs
    exact ⟨g, cap, e, hw.keep hb, h1, h2, h3⟩
theorem BestS.store {w : World} {B0 h N k : Nat} {V v : Value} {o : Option (Nat → Int)} (hs : BestS w B0 h N V o) : BestS (w.setCell ⟨h, k, none⟩ v) B0 h N V o := by
  cases o with
  | none => exact hs
  | some q =>
    obtain ⟨g, cap, e, hw, h1, h2, h3⟩ := hs
    exact ⟨g, cap, e, hw.other (fun e => h2 e.symm), h1, h2, h3⟩
set_option maxRecDepth 100000 in
set_option maxHeartbeats 16000000 in
theorem rCheapest_any (N cap : Nat) (ao : Option Addr) (A : Nat → Option Addr) (l c : Nat → Nat) (F : Nat → Nat → Int) (m dap : Nat) (bo : Option Addr) (B : Nat → Int) (s top : Int) (w : World) (hN : N ≤ 9223372036854775807) (hR : Rowsw w ao N A l c F) (hm : m ≤ 9223372036854775807) (hI : Ints w bo m B) :
    Calls Try.prog 46 #[.agg #[.slice ao N cap], .slice bo m dap, .int .i64 s, .int .i64 top] w fun e w' => ChR w' e N l F m B s top ∧ Below w.heap.size w w' := by
  have HG := Lib.hid hR
  have HI := Lib.hid hI
  clear hR hI
  obtain ⟨bk, hbk⟩ : ∃ bk, okG N l F = bk := ⟨_, rfl⟩
  have HOK := Lib.hid hbk
  clear hbk
  have hbx : (w.alloc (Obj.cells #[.slice ao N cap] 40)).cell? ⟨w.heap.size, 0, none⟩ = some (.slice ao N cap) := by go_cell
  have hb0 : Below w.heap.size w (w.alloc (Obj.cells #[.slice ao N cap] 40)) := by go_grown
  have hsz : w.heap.size < (w.alloc (Obj.cells #[.slice ao N cap] 40)).heap.size := by simp
  go_enter Try.func46, Try.ntmps46
  go_upto_region 1 with fail
  generalize (w.alloc (Obj.cells #[.slice ao N cap] 40)) = W at *
  have HB0 := Lib.hid hb0
  clear hb0
  go_wp2_with fail
  refine (rhValid_any N cap ao A l c F _ hN (HG.out.keep (HB0.out.mono (Nat.le_refl _)))).mono ?_
  rw [HOK.out]
  rintro e w1 ⟨rfl, hb⟩
  have HB1 := Lib.hid (HB0.out.trans (hb.mono HB0.out.size))
  have hbx1 := (hb.cell (p := ⟨w.heap.size, 0, none⟩) hsz).trans hbx
  have hs1 : w.heap.size < w1.heap.size := by have := hb.size; omega
  clear hb HB0 hbx hsz
  have hbl := HB1.out
  obtain ⟨bb, hbb⟩ : ∃ bb, inB m B N (-1000000) 1000000 = bb := ⟨_, rfl⟩
  have HBB := Lib.hid hbb
  clear hbb
  obtain ⟨bs, hbs⟩ : ∃ bs, (decide ((0 : Int) ≤ s) && decide (s ≤ (1000000 : Int))) = bs := ⟨_, rfl⟩
  have HBS := Lib.hid hbs
  obtain ⟨bt, hbt⟩ : ∃ bt, (decide ((0 : Int) ≤ top) && decide (top ≤ (20 : Int))) = bt := ⟨_, rfl⟩
  have HBT := Lib.hid hbt
  clear hbs hbt
  cases bk with
  | false =>
    have HE : Hid (chE N l F m B s top = 60) := Lib.hid (ch_no HOK.out)
    go_wp2_with fail
    refine bodyPost_ret (v := .tuple #[.slice none 0 0, .int .i64 60]) (by simp [results, Try.results46, go_sem, *]) rfl ⟨chR_no HE.out (by decide), hbl⟩
  | true =>
  have hN5 := (okG_iff.1 HOK.out).1.2
  have hN1 := (okG_iff.1 HOK.out).1.1
  have HF : Hid (∀ i, i < N → ∀ j, j < N → -200 ≤ F i j ∧ F i j ≤ 200) := Lib.hid (fun i hi => ((okG_iff.1 HOK.out).2 i hi).2)
  clear hbl
  go_wp2_with fail
  refine (rIsPhases_any m dap bo B N _ hm (HI.out.keep HB1.out)).mono ?_
  rw [HBB.out]
  rintro e w2 ⟨rfl, hb⟩
  have HB2 := Lib.hid (HB1.out.trans (hb.mono HB1.out.size))
  have hbx2 := (hb.cell (p := ⟨w.heap.size, 0, none⟩) hs1).trans hbx1
  have hs2 : w.heap.size < w2.heap.size := by have := hb.size; omega
  clear hb HB1 hbx1 hs1
  cases bb with
  | false =>
    have HE : Hid (chE N l F m B s top = 2) := Lib.hid (ch_arg HOK.out (arg_b HBB.out))
    have hbl := HB2.out
    go_wp2_with fail
    refine bodyPost_ret (v := .tuple #[.slice none 0 0, .int .i64 2]) (by simp [results, Try.results46, go_sem, *]) rfl ⟨chR_no HE.out (by decide), hbl⟩
  | true =>
  go_wp2_with fail
  refine (rWithin_any _ _ _ _).mono ?_
  rw [HBS.out]
  rintro e w3 ⟨rfl, hb⟩
  have HB3 := Lib.hid (HB2.out.trans (hb.mono HB2.out.size))
  have hbx3 := (hb.cell (p := ⟨w.heap.size, 0, none⟩) hs2).trans hbx2
  have hs3 : w.heap.size < w3.heap.size := by have := hb.size; omega
  clear hb HB2 hbx2 hs2
  cases bs with
  | false =>
    have HE : Hid (chE N l F m B s top = 2) := Lib.hid (ch_arg HOK.out (arg_s (by have h := HBS.out; intro hh; rw [decide_eq_true hh.1, decide_eq_true hh.2] at h; simp at h)))
    have hbl := HB3.out
    go_wp2_with fail
    refine bodyPost_ret (v := .tuple #[.slice none 0 0, .int .i64 2]) (by simp [results, Try.results46, go_sem, *]) rfl ⟨chR_no HE.out (by decide), hbl⟩
  | true =>
  go_wp2_with fail
  refine (rWithin_any _ _ _ _).mono ?_
  rw [HBT.out]
  rintro e w4 ⟨rfl, hb⟩
  have HB4 := Lib.hid (HB3.out.trans (hb.mono HB3.out.size))
  have hbx4 := (hb.cell (p := ⟨w.heap.size, 0, none⟩) hs3).trans hbx3
  have hs4 : w.heap.size < w4.heap.size := by have := hb.size; omega
  clear hb HB3 hbx3 hs3
  cases bt with
  | false =>
    have HE : Hid (chE N l F m B s top = 2) := Lib.hid (ch_arg HOK.out (arg_t (by have h := HBT.out; intro hh; rw [decide_eq_true hh.1, decide_eq_true hh.2] at h; simp at h)))
    have hbl := HB4.out
    go_wp2_with fail
    refine bodyPost_ret (v := .tuple #[.slice none 0 0, .int .i64 2]) (by simp [results, Try.results46, go_sem, *]) rfl ⟨chR_no HE.out (by decide), hbl⟩
  | true =>
  have hS : 0 ≤ s ∧ s ≤ 1000000 := by have h := HBS.out; simp only [Bool.and_eq_true, decide_eq_true_iff] at h; exact h
  have hT : 0 ≤ top ∧ top ≤ 20 := by have h := HBT.out; simp only [Bool.and_eq_true, decide_eq_true_iff] at h; exact h
  have HA := Lib.hid (arg3 HBB.out hS.1 hS.2 hT.1 hT.2)
  have HSS := Lib.hid hS
  have HTT := Lib.hid hT
  by_cases h3 : 3 < (N : Int)
  · have HE : Hid (chE N l F m B s top = 4) := Lib.hid (ch_lim HOK.out HA.out (by omega))
    have hbl := HB4.out
    clear hS hT
    go_wp2_with fail
    refine bodyPost_ret (v := .tuple #[.slice none 0 0, .int .i64 4]) (by simp [results, Try.results46, go_sem, *]) rfl ⟨chR_no HE.out (by decide), hbl⟩
  have hN3 : N ≤ 3 := by omega
  have HE0 := Lib.hid (ch_end HOK.out HA.out hN3)
  have HBI : Hid (∀ j, j < N → -1000000 ≤ B j ∧ B j ≤ 1000000) := Lib.hid (fun j hj => (inB_iff.1 HBB.out).2 j (by have := (inB_iff.1 HBB.out).1; omega))
  have hmN : N = m := by have := (inB_iff.1 HBB.out).1; omega
  subst hmN
  obtain ⟨bb, bo', hbo, hBC⟩ := HI.out (by omega)
  have HBC := Lib.hid hBC
  subst hbo
  obtain ⟨i0, hi, hz0, hz1, hz2⟩ := info_parts infoInt
  have HINF := Lib.hid (And.intro hi (And.intro hz0 (And.intro hz1 hz2)))
  have hnil := fun (w : World) (a : Option Addr) (m c : Nat) => Lib.run_eql_slice_nil (P := Try.prog) w 24 3 a m c 0 0 Try.underlying24
  have hbl := HB4.out
  have hsz := hbl.size
  clear hm hS hT h3 hBC hi hz0 hz1 hz2
  go_wp2_with (refine wpList_make_full _ rfl (.tmp 38) (.tmp 38) 24 rfl w4.heap.size 3 i0 _ 1 Try.underlying24 HINF.out.1 HINF.out.2.1 HINF.out.2.2.1 .i64 .i64 _ _ N rfl rfl (by simp) (by simp) ?c1 ?c2 ?c3 ?_)
  case c1 => rw [HINF.out.2.2.2]; omega
  case c2 => unfold maxLen; omega
  case c3 => exact Nat.le_refl _
  intro w5 hown hgrow
  have HW5 : Hid (Intw w5 w4.heap.size N (fun _ => 0)) := Lib.hid (Intw.of_own hown fun i hi => made_get N i hi)
  have hs5 : w4.heap.size < w5.heap.size := (hown.lt _ rfl).2
  have DW : Below w4.heap.size w4 w5 := Below.grown (Below.refl _ _) hgrow (Nat.le_refl _) (fun k hk => by cases hk)
  have HB5 : Hid (Below w.heap.size w w5) := Lib.hid (hbl.trans (DW.mono hsz))
  have hbx5 := (DW.cell (p := ⟨w.heap.size, 0, none⟩) hs4).trans hbx4
  have hh : w.heap.size < w4.heap.size := hs4
  clear hown hgrow DW HB4 hbl hsz hbx4 hs4
  generalize w4.heap.size = h at *
  obtain ⟨near, hnear⟩ : ∃ near, nearF N F B s = near := ⟨_, rfl⟩
  have HNR := Lib.hid hnear
  have HCP : Hid (chP N F B s top = chT near N top 9300) := Lib.hid (by unfold chP; rw [hnear])
  clear hnear
  go_wp2_with fail
  go_loopg [11] 9300 (fun k v11 wr => ∃ (V : Value) (t : Nat) (b p : Option (Nat → Int)) (q : Nat → Int), V = v11 ∧ Hid (t + k = 9300) ∧ Hid (p = some q) ∧ Hid (chT near N top t = b) ∧ Hid (seqP N top t = p) ∧ Hid (BestS wr w.heap.size h N V b) ∧ Hid (Intw wr h N q) ∧ Hid (Below w.heap.size w wr) ∧ wr.cell? ⟨w.heap.size, 0, none⟩ = some (.slice ao N cap) ∧ h < wr.heap.size)
  case atStart => exact ⟨_, 0, none, some (fun _ => 0), fun _ => 0, rfl, Lib.hid (by omega), Lib.hid rfl, Lib.hid rfl, Lib.hid rfl, Lib.hid rfl, HW5, HB5, hbx5, hs5⟩
  case round =>
    obtain ⟨V, t, b, p0, p, rfl, HTK, HP0, HCH, HSQ0, HBE, HPW, HB, hbxr, hsw⟩ := hrel
    have HSQ : Hid (seqP N top t = some p) := Lib.hid (by rw [HSQ0.out, HP0.out])
    clear HW5 HB5 hbx5 hs5 HSQ0 HP0 p0
    have HPT := Lib.hid (seq_inv HTT.out.1 t p HSQ.out).1
    have HPZ := Lib.hid (seq_inv HTT.out.1 t p HSQ.out).2.1
    have HPI : Hid (∀ i, 0 ≤ p i ∧ p i ≤ 20) := Lib.hid (fun i => by have := HPT.out i; have := HTT.out; omega)
    have HTL := Lib.hid (seq_lt HTT.out.1 HTT.out.2 hN3 HSQ.out)
    have HCs := Lib.hid (ch_step (near := near) HSQ.out)
    have HNP : Hid (near p = inTo (ofL N F B p) (-s) s N) := Lib.hid (by rw [← HNR.out]; exact near_eq hN5 HSS.out.1)
    go_wp2_with fail
    go_loopw [13, 14] (fun gv iv wr => ∃ (gb : Bool) (z : Int) (i : Nat), gv = .bool gb ∧ iv = .int .i64 z ∧ z = i ∧ i ≤ N ∧ Hid (inTo (ofL N F B p) (-s) s i = gb) ∧ Hid (BestS wr w.heap.size h N V b) ∧ Hid (Intw wr h N p) ∧ Hid (Below w.heap.size w wr) ∧ wr.cell? ⟨w.heap.size, 0, none⟩ = some (.slice ao N cap) ∧ h < wr.heap.size) (fun _ iv _ => N - (intOf iv).toNat)
    case atStart => exact ⟨true, 0, 0, rfl, rfl, by omega, by omega, Lib.hid rfl, HBE, HPW, HB, hbxr, hsw⟩
    case round =>
      obtain ⟨gb, z, i, rfl, rfl, hz, hi, HGB, HBE2, HPW2, HB2, hbx2, hsw2⟩ := hrel
      clear HBE HPW HB hbxr hsw
      by_cases hlt : i < N
      · have hlt' : z < (N : Int) := by omega
        subst hz
        have i00 : (0 : Int) ≤ (i : Int) := by omega
        have wz : wrap64 ((i : Int) + 1) = (i : Int) + 1 := by simp only [wrap64]; omega
        have hbw : bb < w.heap.size := World.block_lt_of_cell? _ _ (HBC.out i hlt)
        have g0 := (HB2.out.cell (p := ⟨bb, bo' + i, none⟩) hbw).trans (HBC.out i hlt)
        have hb1 := HBI.out i hlt
        have hb2 := he_bd (F := F) (p := p) (i := i) (n := N) (HF.out i hlt) (fun j _ => by have := HPI.out j; omega)
        obtain ⟨x, hx⟩ : ∃ x, B i = x := ⟨_, rfl⟩
        obtain ⟨t9, ht9⟩ : ∃ t9, heT F p i N = t9 := ⟨_, rfl⟩
        have HtT := Lib.hid ht9
        have HOF : Hid (ofL N F B p i = t9 - x) := Lib.hid (by unfold ofL; rw [ht9, hx])
        rw [hx] at g0 hb1
        rw [ht9] at hb2
        have hv1 : -4611686018427387904 ≤ t9 - x := by omega
        have hv2 : t9 - x ≤ 4611686018427387904 := by omega
        obtain ⟨q, hq⟩ : ∃ q, absI (t9 - x) = q := ⟨_, rfl⟩
        have HQ := Lib.hid hq
        have v1 : IntKind.i64.wrap (t9 - x) = t9 - x := by clear wz; go_arith
        have HV := Lib.hid v1
        have HK : Hid (∀ w', Below wr.heap.size wr w' → w'.cell? ⟨bb, bo' + i, none⟩ = some (.int .i64 x) ∧ w'.cell? ⟨w.heap.size, 0, none⟩ = some (.slice ao N cap)) := Lib.hid (fun w' hb => ⟨(hb.cell (p := ⟨bb, bo' + i, none⟩) (World.block_lt_of_cell? _ _ g0)).trans g0, (hb.cell (p := ⟨w.heap.size, 0, none⟩) (by simp only; omega)).trans hbx2⟩)
        clear g0 hx ht9 hq hb1 hb2 v1
        have D0 : Below wr.heap.size wr wr.drew := (Below.refl _ _).drew
        go_upto_region 14 with fail
        cases gb with
        | false =>
          have HG2 : Hid (inTo (ofL N F B p) (-s) s (i + 1) = false) := Lib.hid (by show (inTo _ _ _ i && _) = false; rw [HGB.out]; rfl)
          refine wp_region_held_drew (S := fun w' => w'.cell? ⟨bb, bo' + i, none⟩ = some (.int .i64 x) ∧ w'.cell? ⟨w.heap.size, 0, none⟩ = some (.slice ao N cap)) (by kernel_rfl) (HK.out _ D0) (fun hHeld => ?_)
          refine wpAnyH_take (i := 0) (oi := _) (v := ?_) rfl (by kernel_rfl) (by kernel_rfl) (by kernel_rfl) (fun _ _ _ h => h) (Or.inl ⟨by rfl, ?_⟩) (by assumption) ?_
          rotate_left
          · intro w hSw; obtain ⟨_, _⟩ := hSw; go_simp; (try with_reducible rfl)
          try change wpAnyH _ _ _ _ _ _ _ (Act.put _ (some 45) _) _
          try simp only [act_all]
          refine wpAnyH_take (i := 1) (oi := _) (v := ?_) rfl (by kernel_rfl) (by kernel_rfl) (by kernel_rfl) (fun _ _ _ h => h) (Or.inl ⟨by rfl, ?_⟩) (by assumption) ?_
          rotate_left
          · intro w hSw; obtain ⟨_, _⟩ := hSw; go_simp; (try with_reducible rfl)
          try change wpAnyH _ _ _ _ _ _ _ (Act.put _ (some 46) _) _
          try simp only [act_all]
          refine wpAnyH_take (i := 2) (oi := _) (v := _) rfl (by kernel_rfl) (by kernel_rfl) (by kernel_rfl) (fun _ _ _ h => h) (Or.inr ⟨by rfl, rfl⟩) (by assumption) ?_
          try change wpAnyH _ _ _ _ _ _ _ (Act.put _ (some 47) _) _
          try simp only [act_all]
          refine wpAnyH_take (i := 3) (oi := _) (v := _) rfl (by kernel_rfl) (by kernel_rfl) (by kernel_rfl) (fun _ _ _ h => h) (Or.inr ⟨by rfl, rfl⟩) (by assumption) ?_
          try change wpAnyH _ _ _ _ _ _ _ (Act.put _ (some 48) _) _
          try simp only [act_all]
          refine wpAnyH_take (i := 4) (oi := _) (v := _) rfl (by kernel_rfl) (by kernel_rfl) (by kernel_rfl) (fun _ _ _ h => h) (Or.inr ⟨by rfl, rfl⟩) (by assumption) ?_
          try change wpAnyH _ _ _ _ _ _ _ (Act.put _ (some 49) _) _
          try simp only [act_all]
          refine wpAnyH_take (i := 5) (oi := _) (v := _) rfl (by kernel_rfl) (by kernel_rfl) (by kernel_rfl) (fun _ _ _ h => h) (Or.inr ⟨by rfl, rfl⟩) (by assumption) ?_
          try change wpAnyH _ _ _ _ _ _ _ (Act.put _ (some 50) _) _
          try simp only [act_all]
          refine wpAnyH_take (i := 6) (oi := _) (v := _) rfl (by kernel_rfl) (by kernel_rfl) (by kernel_rfl) (fun _ _ _ h => h) (Or.inr ⟨by rfl, rfl⟩) (by assumption) ?_
          try change wpAnyH _ _ _ _ _ _ _ (Act.put _ (some 51) _) _
          try simp only [act_all]
          refine wpAnyH_take (i := 7) (oi := _) (v := _) rfl (by kernel_rfl) (by kernel_rfl) (by kernel_rfl) (fun _ _ _ h => h) (Or.inr ⟨by rfl, rfl⟩) (by assumption) ?_
          try change wpAnyH _ _ _ _ _ _ _ (Act.put _ (some 52) _) _
          try simp only [act_all]
          refine wpAnyH_take (i := 8) (oi := _) (v := _) rfl (by kernel_rfl) (by kernel_rfl) (by kernel_rfl) (fun _ _ _ h => h) (Or.inr ⟨by rfl, rfl⟩) (by assumption) ?_
          try change wpAnyH _ _ _ _ _ _ _ (Act.put _ (some 53) _) _
          try simp only [act_all]
          refine wpAnyH_take (i := 9) (oi := _) (v := _) rfl (by kernel_rfl) (by kernel_rfl) (by kernel_rfl) (fun _ _ _ h => h) (Or.inr ⟨by rfl, rfl⟩) (by assumption) ?_
          try change wpAnyH _ _ _ _ _ _ _ (Act.put _ (some 54) _) _
          try simp only [act_all]
          refine wpAnyH_take (i := 10) (oi := _) (v := _) rfl (by kernel_rfl) (by kernel_rfl) (by kernel_rfl) (fun _ _ _ h => h) (Or.inr ⟨by rfl, rfl⟩) (by assumption) ?_
          try change wpAnyH _ _ _ _ _ _ _ (Act.put _ (some 55) _) _
          try simp only [act_all]
          refine wpAnyH_take (i := 11) (oi := _) (v := _) rfl (by kernel_rfl) (by kernel_rfl) (by kernel_rfl) (fun _ _ _ h => h) (Or.inr ⟨by rfl, rfl⟩) (by assumption) ?_
          try change wpAnyH _ _ _ _ _ _ _ (Act.put _ (some 56) _) _
          try simp only [act_all]
          refine wpAnyH_take (i := 12) (oi := _) (v := _) rfl (by kernel_rfl) (by kernel_rfl) (by kernel_rfl) (fun _ _ _ h => h) (Or.inr ⟨by rfl, rfl⟩) (by assumption) ?_
          try change wpAnyH _ _ _ _ _ _ _ (Act.put _ (some 57) _) _
          try simp only [act_all]
          refine wpAnyH_take (i := 13) (oi := _) (v := _) rfl (by kernel_rfl) (by kernel_rfl) (by kernel_rfl) (fun _ _ _ h => h) (Or.inr ⟨by rfl, rfl⟩) (by assumption) ?_
          try change wpAnyH _ _ _ _ _ _ _ (Act.put _ (some 58) _) _
          try simp only [act_all]
          refine wpAnyH_take (i := 14) (oi := _) (v := ?_) rfl (by kernel_rfl) (by kernel_rfl) (by kernel_rfl) (fun _ _ _ h => h) (Or.inl ⟨by rfl, ?_⟩) (by assumption) ?_
          rotate_left
          · intro w hSw; obtain ⟨_, _⟩ := hSw; go_simp; (try with_reducible rfl)
          try change wpAnyH _ _ _ _ _ _ _ (Act.put _ (some 59) _) _
          try simp only [act_all]
          refine wpAnyH_take (i := 15) (oi := _) (v := ?_) rfl (by kernel_rfl) (by kernel_rfl) (by kernel_rfl) (fun _ _ _ h => h) (Or.inl ⟨by rfl, ?_⟩) (by assumption) ?_
          rotate_left
          · intro w hSw; obtain ⟨_, _⟩ := hSw; go_simp; (try with_reducible rfl)
          try change wpAnyH _ _ _ _ _ _ _ (Act.put _ (some 13) _) _
          try simp only [act_all]
          refine wpAnyH_done (by kernel_rfl) ?_ _
          have HBE9 := Lib.hid (HBE2.out.keep D0)
          have HPW9 := Lib.hid (HPW2.out.keep D0)
          have HB9 := Lib.hid (HB2.out.trans (D0.mono HB2.out.size))
          have hbx9 := (HK.out _ D0).2
          have hs9 : h < wr.drew.heap.size := by have := D0.size; omega
          clear hHeld HK HBE2 HPW2 HB2 hbx2 hsw2 D0
          go_wp2_with fail
          go_roundw
          case rel => exact ⟨false, (i : Int) + 1, i + 1, rfl, by first | rfl | rw [wz], by omega, by omega, HG2, HBE9, HPW9, HB9, hbx9, hs9⟩
          case measure => first | (simp [intOf]; done) | (simp [intOf]; omega)
        | true =>
          have HG2 : Hid (inTo (ofL N F B p) (-s) s (i + 1) = decide (q ≤ s)) := Lib.hid (by
            show (inTo _ _ _ i && (decide (-s ≤ ofL N F B p i) && decide (ofL N F B p i ≤ s))) = _
            rw [HGB.out, HOF.out, Bool.true_and]
            rw [Bool.eq_iff_iff, Bool.and_eq_true, decide_eq_true_iff, decide_eq_true_iff, decide_eq_true_iff, ← HQ.out]
            exact absI_le.symm)
          refine wp_region_held_drew (S := fun w' => w'.cell? ⟨bb, bo' + i, none⟩ = some (.int .i64 x) ∧ w'.cell? ⟨w.heap.size, 0, none⟩ = some (.slice ao N cap)) (by kernel_rfl) (HK.out _ D0) (fun hHeld => ?_)
          refine wpAnyH_take (i := 0) (oi := _) (v := ?_) rfl (by kernel_rfl) (by kernel_rfl) (by kernel_rfl) (fun _ _ _ h => h) (Or.inl ⟨by rfl, ?_⟩) (by assumption) ?_
          rotate_left
          · intro w hSw; obtain ⟨_, _⟩ := hSw; go_simp; (try with_reducible rfl)
          try change wpAnyH _ _ _ _ _ _ _ (Act.put _ (some 45) _) _
          try simp only [act_all]
          refine wpAnyH_take (i := 1) (oi := _) (v := ?_) rfl (by kernel_rfl) (by kernel_rfl) (by kernel_rfl) (fun _ _ _ h => h) (Or.inl ⟨by rfl, ?_⟩) (by assumption) ?_
          rotate_left
          · intro w hSw; obtain ⟨_, _⟩ := hSw; go_simp; (try with_reducible rfl)
          try change wpAnyH _ _ _ _ _ _ _ (Act.put _ (some 46) _) _
          try simp only [act_all]
          refine wpAnyH_take (i := 2) (oi := _) (v := ?_) rfl (by kernel_rfl) (by kernel_rfl) (by kernel_rfl) (fun _ _ _ h => h) (Or.inl ⟨by rfl, ?_⟩) (by assumption) ?_
          rotate_left
          · intro w hSw; obtain ⟨_, _⟩ := hSw; go_simp; (try with_reducible rfl)
          try change wpAnyH _ _ _ _ _ _ _ (Act.put _ (some 47) _) _
          try simp only [act_all]
          refine wpAnyH_take (i := 3) (oi := _) (v := ?_) rfl (by kernel_rfl) (by kernel_rfl) (by kernel_rfl) (fun _ _ _ h => h) (Or.inl ⟨by rfl, ?_⟩) (by assumption) ?_
          rotate_left
          · intro w hSw; obtain ⟨_, _⟩ := hSw; go_simp; (try with_reducible rfl)
          try change wpAnyH _ _ _ _ _ _ _ (Act.put _ (some 48) _) _
          try simp only [act_all]
          refine wpAnyH_take (i := 4) (oi := _) (v := ?_) rfl (by kernel_rfl) (by kernel_rfl) (by kernel_rfl) (fun _ _ _ h => h) (Or.inl ⟨by rfl, ?_⟩) (by assumption) ?_
          rotate_left
          · intro w hSw; obtain ⟨_, _⟩ := hSw; go_simp; (try with_reducible rfl)
          try change wpAnyH _ _ _ _ _ _ _ (Act.put _ (some 49) _) _
          try simp only [act_all]
          refine wpAnyH_take (i := 6) (oi := _) (v := ?_) rfl (by kernel_rfl) (by kernel_rfl) (by kernel_rfl) (fun _ _ _ h => h) (Or.inl ⟨by rfl, ?_⟩) (by assumption) ?_
          rotate_left
          · intro w hSw; obtain ⟨_, _⟩ := hSw; go_simp; (try with_reducible rfl)
          try change wpAnyH _ _ _ _ _ _ _ (Act.put _ (some 51) _) _
          try simp only [act_all]
          refine wpAnyH_take (i := 7) (oi := _) (v := ?_) rfl (by kernel_rfl) (by kernel_rfl) (by kernel_rfl) (fun _ _ _ h => h) (Or.inl ⟨by rfl, ?_⟩) (by assumption) ?_
          rotate_left
          · intro w hSw; obtain ⟨_, _⟩ := hSw; go_simp; (try with_reducible rfl)
          try change wpAnyH _ _ _ _ _ _ _ (Act.put _ (some 52) _) _
          try simp only [act_all]
          refine wpAnyH_take (i := 8) (oi := _) (v := ?_) rfl (by kernel_rfl) (by kernel_rfl) (by kernel_rfl) (fun _ _ _ h => h) (Or.inl ⟨by rfl, ?_⟩) (by assumption) ?_
          rotate_left
          · intro w hSw; obtain ⟨_, _⟩ := hSw; go_simp; (try with_reducible rfl)
          try change wpAnyH _ _ _ _ _ _ _ (Act.put _ (some 53) _) _
          try simp only [act_all]
          refine wpAnyH_take (i := 9) (oi := _) (v := ?_) rfl (by kernel_rfl) (by kernel_rfl) (by kernel_rfl) (fun _ _ _ h => h) (Or.inl ⟨by rfl, ?_⟩) (by assumption) ?_
          rotate_left
          · intro w hSw; obtain ⟨_, _⟩ := hSw; go_simp; (try with_reducible rfl)
          try change wpAnyH _ _ _ _ _ _ _ (Act.put _ (some 54) _) _
          try simp only [act_all]
          refine wpAnyH_take (i := 12) (oi := _) (v := ?_) rfl (by kernel_rfl) (by kernel_rfl) (by kernel_rfl) (fun _ _ _ h => h) (Or.inl ⟨by rfl, ?_⟩) (by assumption) ?_
          rotate_left
          · intro w hSw; obtain ⟨_, _⟩ := hSw; go_simp; (try with_reducible rfl)
          try change wpAnyH _ _ _ _ _ _ _ (Act.put _ (some 57) _) _
          try simp only [act_all]
          refine wpAnyH_ready (rs := [5]) (by kernel_rfl) (by simp) ?_
          refine AllReadyH.cons (o := _) rfl (fun K hK => ?_) AllReadyH.nil
          go_simp
          refine (rHeated_any N cap ao A l c F i N (some ⟨h, 0, none⟩) p _ (HG.out.keep (HB2.out.drew.mono (Nat.le_refl _))) HOK.out hlt (Intw.ints (HPW2.out.keep D0)) (fun j _ => by have := HPI.out j; omega)).mono ?_
          rw [HtT.out]
          rintro e v1 ⟨rfl, hb⟩
          have D1 : Below wr.heap.size wr v1 := D0.trans (hb.mono D0.size)
          clear hb
          refine hK.out _ _ (HK.out _ D1) (fun hHeld => ?_)
          clear hK K
          try simp only [act_all]
          refine wpAnyH_take (i := 10) (oi := _) (v := ?_) rfl (by kernel_rfl) (by kernel_rfl) (by kernel_rfl) (fun _ _ _ h => h) (Or.inl ⟨by rfl, ?_⟩) (by assumption) ?_
          rotate_left
          · intro w hSw; obtain ⟨_, _⟩ := hSw; go_simp; (try with_reducible rfl)
          try change wpAnyH _ _ _ _ _ _ _ (Act.put _ (some 55) _) _
          try simp only [act_all]
          refine wpAnyH_ready (rs := [11]) (by kernel_rfl) (by simp) ?_
          refine AllReadyH.cons (o := _) rfl (fun K hK => ?_) AllReadyH.nil
          go_simp
          try simp only [HV.out]
          refine (rAbs_any (t9 - x) _ hv1 hv2).mono ?_
          rw [HQ.out]
          rintro e v2 ⟨rfl, hb⟩
          have D2 : Below wr.heap.size wr v2 := D1.trans (hb.mono D1.size)
          clear hb
          refine hK.out _ _ (HK.out _ D2) (fun hHeld => ?_)
          clear hK K
          try simp only [act_all]
          refine wpAnyH_take (i := 13) (oi := _) (v := ?_) rfl (by kernel_rfl) (by kernel_rfl) (by kernel_rfl) (fun _ _ _ h => h) (Or.inl ⟨by rfl, ?_⟩) (by assumption) ?_
          rotate_left
          · intro w hSw; obtain ⟨_, _⟩ := hSw; go_simp; (try with_reducible rfl)
          try change wpAnyH _ _ _ _ _ _ _ (Act.put _ (some 58) _) _
          try simp only [act_all]
          refine wpAnyH_take (i := 14) (oi := _) (v := ?_) rfl (by kernel_rfl) (by kernel_rfl) (by kernel_rfl) (fun _ _ _ h => h) (Or.inl ⟨by rfl, ?_⟩) (by assumption) ?_
          rotate_left
          · intro w hSw; obtain ⟨_, _⟩ := hSw; go_simp; (try with_reducible rfl)
          try change wpAnyH _ _ _ _ _ _ _ (Act.put _ (some 59) _) _
          try simp only [act_all]
          refine wpAnyH_take (i := 15) (oi := _) (v := ?_) rfl (by kernel_rfl) (by kernel_rfl) (by kernel_rfl) (fun _ _ _ h => h) (Or.inl ⟨by rfl, ?_⟩) (by assumption) ?_
          rotate_left
          · intro w hSw; obtain ⟨_, _⟩ := hSw; go_simp; (try with_reducible rfl)
          try change wpAnyH _ _ _ _ _ _ _ (Act.put _ (some 13) _) _
          try simp only [act_all]
          refine wpAnyH_done (by kernel_rfl) ?_ _
          have HBE9 := Lib.hid (HBE2.out.keep D2)
          have HPW9 := Lib.hid (HPW2.out.keep D2)
          have HB9 := Lib.hid (HB2.out.trans (D2.mono HB2.out.size))
          have hbx9 := (HK.out _ D2).2
          have hs9 : h < v2.heap.size := by have := D2.size; omega
          clear hHeld HK HBE2 HPW2 HB2 hbx2 hsw2 D2
          by_cases hqs : q ≤ s
          · have HG3 : Hid (inTo (ofL N F B p) (-s) s (i + 1) = true) := Lib.hid (by rw [HG2.out]; exact decide_eq_true hqs)
            go_wp2_with fail
            go_roundw
            case rel => exact ⟨true, (i : Int) + 1, i + 1, by first | rfl | (simp [hqs]; done), by first | rfl | rw [wz], by omega, by omega, HG3, HBE9, HPW9, HB9, hbx9, hs9⟩
            case measure => first | (simp [intOf]; done) | (simp [intOf]; omega)
          · have HG3 : Hid (inTo (ofL N F B p) (-s) s (i + 1) = false) := Lib.hid (by rw [HG2.out]; exact decide_eq_false hqs)
            go_wp2_with fail
            go_roundw
            case rel => exact ⟨false, (i : Int) + 1, i + 1, by first | rfl | (simp [hqs]; done), by first | rfl | rw [wz], by omega, by omega, HG3, HBE9, HPW9, HB9, hbx9, hs9⟩
            case measure => first | (simp [intOf]; done) | (simp [intOf]; omega)
      · obtain rfl : i = N := by omega
        subst hz
        clear hlt
        have HGN : Hid (near p = gb) := Lib.hid (by rw [HNP.out, HGB.out])
        obtain ⟨b', hb'⟩ : ∃ b', updB near b p = b' := ⟨_, rfl⟩
        have HCs2 : Hid (chT near i top (t + 1) = b') := Lib.hid (by rw [HCs.out, HCH.out, hb'])
        have HUP := Lib.hid hb'
        clear hb' HGB
        obtain ⟨uq, huq⟩ : ∃ uq, (near p && !(b.isSome && decide (sm (opL b) ≤ sm p))) = uq := ⟨_, rfl⟩
        have HUQ : Hid ((gb && !(b.isSome && decide (sm (opL b) ≤ sm p))) = uq) := Lib.hid (by rw [← HGN.out, huq])
        have HU1 : Hid (b' = if uq = true then some p else b) := Lib.hid (by
          rw [← HUP.out, ← huq]
          unfold updB
          cases (b.isSome && decide (sm (opL b) ≤ sm p)) <;> cases near p <;> rfl)
        clear huq HUP HGN
        go_upto_region 15 with fail
        go_cut [71] (fun v71 wx => v71 = .bool uq ∧ Below wr.heap.size wr wx)
        case first =>
          cases gb with
          | false =>
            obtain rfl : uq = false := HUQ.out.symm
            go_wp2_with fail
            go_meet
            exact ⟨rfl, Below.refl _ _⟩
          | true =>
            cases b with
            | none =>
              obtain rfl : uq = true := HUQ.out.symm
              obtain rfl : V = .slice none 0 0 := HBE2.out
              go_wp2_with fail
              go_meet
              exact ⟨rfl, Below.refl _ _⟩
            | some bq =>
              obtain ⟨gB, cB, rfl, hBW, hB0, hBh, hBz, hBr⟩ := HBE2.out
              have HBW := Lib.hid hBW
              have HBz := Lib.hid hBz
              have HBr := Lib.hid hBr
              clear hBW hBz hBr
              obtain ⟨sp, hsp⟩ : ∃ sp, sm p = sp := ⟨_, rfl⟩
              obtain ⟨sb, hsb⟩ : ∃ sb, sm bq = sb := ⟨_, rfl⟩
              have HSP : Hid (sumI p i = sp) := Lib.hid (by rw [sm_sum hN5 HPZ.out, hsp])
              have HSB : Hid (sumI bq i = sb) := Lib.hid (by rw [sm_sum hN5 HBz.out, hsb])
              have HUV : Hid (uq = !decide (sb ≤ sp)) := Lib.hid (by rw [← HUQ.out, show opL (some bq) = bq from rfl, hsp, hsb]; rfl)
              clear hsp hsb HUQ HU1
              go_wp2_with fail
              refine (rSum_any i i (some ⟨h, 0, none⟩) p _ (by omega) HPW2.out.ints (fun k _ => by have := HPI.out k; omega)).mono ?_
              rw [HSP.out]
              rintro e w6 ⟨rfl, hb⟩
              have D6 : Below wr.heap.size wr w6 := hb
              have HBW6 := Lib.hid (HBW.out.keep hb)
              clear hb
              go_wp2_with fail
              refine (rSum_any i cB (some ⟨gB, 0, none⟩) bq _ (by omega) HBW6.out.ints (fun k _ => by have := HBr.out k; omega)).mono ?_
              rw [HSB.out]
              rintro e w7 ⟨rfl, hb⟩
              have D7 : Below wr.heap.size wr w7 := D6.trans (hb.mono D6.size)
              clear hb D6
              by_cases hle : sb ≤ sp
              · have hle2 : ¬ sp < sb := by omega
                obtain rfl : uq = false := by rw [HUV.out, decide_eq_true hle]; rfl
                clear HUV
                go_wp2_with fail
                go_meet
                exact ⟨by first | rfl | (simp [hle]; done), D7⟩
              · have hle2 : sp < sb := by omega
                obtain rfl : uq = true := by rw [HUV.out, decide_eq_false hle]; rfl
                clear HUV
                go_wp2_with fail
                go_meet
                exact ⟨by first | rfl | (simp [hle2]; done), D7⟩
        case rest =>
        obtain ⟨rfl, hD⟩ := hcut
        have HBE7 := Lib.hid (HBE2.out.keep hD)
        have HPW7 := Lib.hid (HPW2.out.keep hD)
        have HB7 := Lib.hid (HB2.out.trans (hD.mono HB2.out.size))
        have hbx7 := (hD.cell (p := ⟨w.heap.size, 0, none⟩) (by simp only; omega)).trans hbx2
        have hs7 : h < wc.heap.size := by have := hD.size; omega
        clear hD HBE2 HPW2 HB2 hbx2 hsw2 HUQ
        generalize wc = w7 at *
        go_upto_if 71 with fail
        go_cut [11] (fun v11 wx => ∃ V', V' = v11 ∧ Hid (BestS wx w.heap.size h i V' b') ∧ Hid (Intw wx h i p) ∧ Hid (Below w.heap.size w wx) ∧ wx.cell? ⟨w.heap.size, 0, none⟩ = some (.slice ao i cap) ∧ h < wx.heap.size)
        case first =>
          cases uq with
          | false =>
            have HU2 : Hid (b' = b) := Lib.hid HU1.out
            go_wp2_with fail
            go_meet
            exact ⟨V, rfl, by rw [HU2.out]; exact HBE7, HPW7, HB7, hbx7, hs7⟩
          | true =>
            have HU2 : Hid (b' = some p) := Lib.hid HU1.out
            go_wp2_with (at_builtin; refine wpList_append_own _ rfl (.tmp 72) (.tmp 73) 24 rfl w7.heap.size 3 i0 _ 1 8 Try.underlying24 HINF.out.1 HINF.out.2.1 HINF.out.2.2.1 HINF.out.2.2.2 rfl (by decide) _ 0 [] rfl (World.ownsRow_made w7 #[] 0 (Nat.le_refl _) (by unfold maxLen; omega) rfl) ⟨h, 0, none⟩ i i (cellsI p i) rfl ?cb0 ?cb1 ?cb2 ?cb3 ?cb4 ?cb5 ?_)
            case cb0 => rw [cellsI_len]; (try omega)
            case cb1 =>
              intro j u hu
              have hj : j < i := by have := (List.getElem?_eq_some_iff.1 hu).1; rwa [cellsI_len] at this
              rw [cellsI_get p hj] at hu
              rw [← hu]
              first
                | exact (HPW7.out j hj).1
                | (rw [Addr.add_lit, Nat.zero_add]; exact ((((Below.refl _ _).alloc (Nat.le_refl _) _)).cell (p := ⟨h, j, none⟩) (by simp only; omega)).trans (HPW7.out j hj).1)
            case cb2 => exact cellsI_one p i
            case cb3 => unfold maxLen; omega
            case cb4 => omega
            try (case cb5 => first | omega | (simp; done) | (simp; omega))
            intro v' w8 hown hgrow _
            (try simp only [Nat.zero_add, List.nil_append] at hown)
            obtain ⟨g8, cap8, rfl, hgB, hgs, hgc, hgm⟩ := own_fm hown hN1
            have HW8 : Hid (Intw w8 g8 i p) := Lib.hid (Intw.of_own hown fun i hi => cellsI_get p hi)
            have D8 : Below w7.heap.size w7 w8 := Below.grown (by go_grown) hgrow (by first | omega | (simp; done) | (simp; omega)) (fun k hk => by simp [Value.ownBlock] at hk; omega)
            have HPW8 := Lib.hid (HPW7.out.keep D8)
            have HB8 := Lib.hid (HB7.out.trans (D8.mono HB7.out.size))
            have hbx8 := (D8.cell (p := ⟨w.heap.size, 0, none⟩) (by simp only; omega)).trans hbx7
            have hs8 : h < w8.heap.size := by have := D8.size; omega
            have HBE8 : Hid (BestS w8 w.heap.size h i (.slice (some ⟨g8, 0, none⟩) i cap8) (some p)) := Lib.hid ⟨g8, cap8, rfl, HW8.out, by omega, by omega, HPZ.out, HPI.out⟩
            clear hown hgrow hgB hgs hgc hgm D8
            go_wp2_with fail
            go_meet
            exact ⟨_, rfl, by rw [HU2.out]; exact HBE8, HPW8, HB8, hbx8, hs8⟩
        case rest =>
          obtain ⟨V', rfl, HBEc, HPWc, HBc, hbxc, hsc⟩ := hcut
          clear HBE7 HPW7 HB7 hbx7 hs7 HU1
          have wn : wrap64 ((i : Int) - 1) = (i : Int) - 1 := by simp only [wrap64]; omega
          go_wp2_with fail
          go_loopw [15] (fun kv wr => ∃ (z : Int) (k : Nat) (q : Nat → Int), kv = .int .i64 z ∧ Hid (z = (k : Int) - 1) ∧ k ≤ i ∧ Hid (nxO top k q = nxO top i p) ∧ Hid (∀ j, 0 ≤ q j ∧ q j ≤ top) ∧ Hid (BestS wr w.heap.size h i V' b') ∧ Hid (Intw wr h i q) ∧ Hid (Below w.heap.size w wr) ∧ wr.cell? ⟨w.heap.size, 0, none⟩ = some (.slice ao i cap) ∧ h < wr.heap.size) (fun kv _ => (intOf kv + 1).toNat)
          case atStart => exact ⟨(i : Int) - 1, i, p, by first | rfl | rw [wn], Lib.hid rfl, by omega, Lib.hid rfl, HPT, HBEc, HPWc, HBc, hbxc, hsc⟩
          case round =>
            obtain ⟨z, k, q, rfl, HZ, hk, HNX, HQR, HBE3, HPW3, HB3, hbx3, hsw3⟩ := hrel
            clear HBEc HPWc HBc hbxc hsc wn
            cases k with
            | zero =>
              have hz : z < 0 := by have := HZ.out; omega
              have hz2 : ¬ 0 ≤ z := by omega
              have HEND : Hid (chP i F B s top = b') := Lib.hid (by
                rw [HCP.out]
                have hsn : seqP i top (t + 1) = none := by rw [seq_step HSQ.out, ← HNX.out]; rfl
                have h := (seq_end (near := near) hsn (9300 - (t + 1))).2
                rw [show t + 1 + (9300 - (t + 1)) = 9300 by have := HTL.out; omega] at h
                rw [h, HCs2.out])
              have hbl := HB3.out
              cases b' with
              | none =>
                obtain rfl : V' = .slice none 0 0 := HBE3.out
                have HE : Hid (chE i l F i B s top = 62) := Lib.hid (by rw [HE0.out, HEND.out]; rfl)
                clear HPW3 HB3
                go_wp2_with fail
                refine bodyPost_ret (v := .tuple #[.slice none 0 0, .int .i64 62]) (by simp [results, Try.results46, go_sem, *]) rfl ⟨chR_no HE.out (by decide), hbl⟩
              | some bq =>
                obtain ⟨gB, cB, rfl, hBW, hB0, hBh, hBz, hBr⟩ := HBE3.out
                have HE : Hid (chE i l F i B s top = 0) := Lib.hid (by rw [HE0.out, HEND.out]; rfl)
                have HBW : Hid (Intw wr gB i (opL (chP i F B s top))) := Lib.hid (by rw [HEND.out]; exact hBW)
                clear HPW3 HB3 HBE3 hBW hBz hBr
                go_wp2_with fail
                refine bodyPost_ret (v := .tuple #[.slice (some ⟨gB, 0, none⟩) i cB, .int .i64 0]) (by simp [results, Try.results46, go_sem]) rfl ⟨chR_ok HE.out HBW.out, hbl⟩
            | succ k =>
              obtain rfl : z = k := by have := HZ.out; omega
              have k0 : (0 : Int) ≤ (k : Int) := by omega
              have hki : (k : Int) < (i : Int) := by omega
              obtain ⟨m0, m1⟩ := HPW3.out k (by omega)
              have hqb := HQR.out k
              obtain ⟨x, hx⟩ : ∃ x, q k = x := ⟨_, rfl⟩
              have HX := Lib.hid hx
              rw [hx] at m0 hqb
              clear hx HZ
              have wz : wrap64 ((k : Int) - 1) = (k : Int) - 1 := by simp only [wrap64]; omega
              by_cases hxt : x = top
              · have hxe : (x == top) = true := by simp [hxt]
                have HN2 : Hid (nxO top k (updI q k 0) = nxO top i p) := Lib.hid (by rw [← HNX.out]; show _ = (if q k < top then _ else _); rw [HX.out, if_neg (by omega)])
                have HQ2 : Hid (∀ j, 0 ≤ updI q k 0 j ∧ updI q k 0 j ≤ top) := Lib.hid (fun j => by
                  unfold updI
                  split
                  · have := HTT.out; omega
                  · exact HQR.out j)
                have HPn := Lib.hid (HPW3.out.store (j := k) (by omega) 0)
                have HBEn := Lib.hid (HBE3.out.store (k := k) (v := .int .i64 0))
                have HBn := Lib.hid (HB3.out.setCell (p := ⟨h, k, none⟩) (by simp only; omega) (.int .i64 0))
                have hne : ¬ h = w.heap.size := by omega
                have hbxn : (wr.setCell ⟨h, k, none⟩ (.int .i64 0)).cell? ⟨w.heap.size, 0, none⟩ = some (.slice ao i cap) := by go_cell
                have hsn : h < (wr.setCell ⟨h, k, none⟩ (.int .i64 0)).heap.size := by simpa using hsw3
                clear HPW3 HBE3 HB3 HNX HQR hxt
                go_wp2_with fail
                go_roundw
                case rel => exact ⟨(k : Int) - 1, k, updI q k 0, by first | rfl | rw [wz], Lib.hid rfl, by omega, HN2, HQ2, HBEn, HPn, HBn, hbxn, hsn⟩
                case measure => first | (simp [intOf]; done) | (simp [intOf]; omega)
              · have hxe : (x == top) = false := beq_eq_false_iff_ne.2 hxt
                have hxl : x < top := by omega
                have HN2 : Hid (nxO top i p = some (updI q k (x + 1))) := Lib.hid (by rw [← HNX.out]; show (if q k < top then _ else _) = _; rw [HX.out, if_pos hxl])
                have HS2 : Hid (seqP i top (t + 1) = some (updI q k (x + 1))) := Lib.hid (by rw [seq_step HSQ.out, HN2.out]; rfl)
                have hk0 : ¬ (k : Int) < 0 := by omega
                have hT2 := HTT.out
                have wx : wrap64 (x + 1) = x + 1 := by clear wz; simp only [wrap64]; omega
                have HPn := Lib.hid (HPW3.out.store (j := k) (by omega) (x + 1))
                have HBEn := Lib.hid (HBE3.out.store (k := k) (v := .int .i64 (x + 1)))
                have HBn := Lib.hid (HB3.out.setCell (p := ⟨h, k, none⟩) (by simp only; omega) (.int .i64 (x + 1)))
                have hne : ¬ h = w.heap.size := by omega
                have hbxn : (wr.setCell ⟨h, k, none⟩ (.int .i64 (x + 1))).cell? ⟨w.heap.size, 0, none⟩ = some (.slice ao i cap) := by go_cell
                have hsn : h < (wr.setCell ⟨h, k, none⟩ (.int .i64 (x + 1))).heap.size := by simpa using hsw3
                clear HPW3 HBE3 HB3 HNX HQR hxt
                go_wp2_with fail
                go_roundg (9300 - (t + 1))
                case measure => have := HTK.out; have := HTL.out; omega
                case rel => exact ⟨V', t + 1, b', some (updI q k (x + 1)), updI q k (x + 1), rfl, Lib.hid (by have := HTL.out; omega), Lib.hid rfl, HCs2, HS2, HBEn, HPn, HBn, hbxn, hsn⟩
end Go.Proofs.Ytldepffpafccpaa
