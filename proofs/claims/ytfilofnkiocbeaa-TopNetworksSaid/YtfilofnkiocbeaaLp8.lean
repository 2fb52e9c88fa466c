import Derived.Test.YtfilofnkiocbeaaRv8
namespace Go.Proofs.Ytfilofnkiocbeaa
open Go.RowKit Ben Prm
theorem partner_to {x u : Nat} (hx : x < 16) (hu : pt x = u) (w : World) : Calls Try.prog 89 #[.int .i64 (x : Int)] w fun e w' => e = .returned (.int .i64 (u : Int)) ∧ w = w' := by
  subst hu
  exact partner_any hx w
/-- What loopsOf gives: the loops of a permutation, each with its inputs in order. -/
def LpsR (h B : Nat) (p q : Nat → Nat) (w : World) (e : Ending) : Prop := ∃ (L cap g top : Nat) (s kk G C : Nat → Nat), e = .returned (.slice (some ⟨g, 0, none⟩) L cap) ∧ Lps h p q L s kk ∧ 1 ≤ L ∧ L ≤ 2 * h ∧ (∀ i, i < L → kk i ≤ 2 * h) ∧
  RowsV w B top (.slice (some ⟨g, 0, none⟩) L cap) L (fun i => 2 * kk i) G C (fun i j => ((lpF p q (s i) j : Nat) : Int))
set_option maxRecDepth 100000 in
set_option maxHeartbeats 16000000 in
theorem loopsOf_any (h n cap : Nat) (ao : Option Addr) (p q : Nat → Nat) (w : World) (hnh : n = 2 * h) (h1 : 1 ≤ h) (h8 : h ≤ 8) (P : Pm n p q) (hc : Ints w ao n (fun j => ((p j : Nat) : Int))) :
    Calls Try.prog 83 #[.slice ao n cap] w fun e w' => LpsR h w.heap.size p q w' e ∧ Below w.heap.size w w' := by
  obtain ⟨i0, hi, hz0, hz1, hz2⟩ := info_parts infoInt
  have HI := Lib.hid (And.intro hi (And.intro hz0 (And.intro hz1 hz2)))
  obtain ⟨i1, hi', hz0', hz1', hz2'⟩ := info_parts infoBool
  have HI' := Lib.hid (And.intro hi' (And.intro hz0' (And.intro hz1' hz2')))
  obtain ⟨i2, hi2, hz02, hz12, hz22⟩ := info_parts infoSl
  have HSL := Lib.hid (And.intro hi2 (And.intro hz02 (And.intro hz12 hz22)))
  have HP := Lib.hid P
  have h2 : 2 ≤ n := by omega
  have hn : n ≤ 16 := by omega
  have HN := Lib.hid (And.intro h2 (And.intro hn hnh))
  have HC := Lib.hid hc
  clear hi hz0 hz1 hz2 hi' hz0' hz1' hz2' hi2 hz02 hz12 hz22 P hc h2 hn hnh h1 h8
  go_enter Try.func83, Try.ntmps83
  go_wp2_with (refine wpList_make_full _ rfl (.tmp 13) (.tmp 13) 28 rfl w.heap.size 3 i0 _ 1 Try.underlying28 HI.out.1 HI.out.2.1 HI.out.2.2.1 .i64 .i64 _ _ n rfl rfl (by simp) (by simp) ?c1 ?c2 ?c3 ?_)
  case c1 => rw [HI.out.2.2.2]; have := HN.out; omega
  case c2 => unfold maxLen; have := HN.out; omega
  case c3 => exact Nat.le_refl _
  intro w1 hown hgrow
  have HW : Hid (Intw w1 w.heap.size n (fun _ => 0)) := Lib.hid (Intw.of_own hown fun i hi => made_get n i hi)
  have hlt1 : w.heap.size < w1.heap.size := (hown.lt _ rfl).2
  have HB1 : Hid (Below w.heap.size w w1) := Lib.hid (Below.grown (Below.refl _ _) hgrow (Nat.le_refl _) (fun k hk => by cases hk))
  clear hown hgrow
  go_wp2_with fail
  go_loopw [17] (fun iv wr => ∃ (z : Int) (k : Nat), iv = .int .i64 z ∧ z = k ∧ k ≤ n ∧ Hid (Intw wr w.heap.size n (srS q k)) ∧ Hid (Below w.heap.size w wr) ∧ w.heap.size < wr.heap.size) (fun iv _ => n - (intOf iv).toNat)
  case atStart => exact ⟨0, 0, rfl, rfl, Nat.zero_le _, Lib.hid (HW.out.congr fun i _ => (if_neg (by omega)).symm), HB1, hlt1⟩
  case round =>
    obtain ⟨z, k, rfl, hz, hk, HF, HB, hs⟩ := hrel
    clear HW HB1 hlt1
    have hbl := HB.out
    by_cases hlt : k < n
    · have hlt' : z < (n : Int) := by omega
      have hPk := HP.out.lp k hlt
      obtain ⟨b, o, rfl, hcell⟩ := (HC.out.keep HB.out) (by omega)
      have c0 := hcell k hlt
      have lb : b < w.heap.size := by
        obtain ⟨b', o', e', hc'⟩ := HC.out (by omega)
        have h1 : b' < w.heap.size := World.block_lt_of_cell? _ _ (hc' 0 (by omega))
        have e2 : b = b' := congrArg Addr.block (Option.some.inj e')
        omega
      obtain ⟨y, hy⟩ : ∃ y, p k = y := ⟨_, rfl⟩
      simp only [hy] at c0
      rw [hy] at hPk
      obtain ⟨m0, m1⟩ := HF.out y hPk
      have k0 : (0 : Int) ≤ (k : Int) := by omega
      have kt : (k : Int).toNat = k := by omega
      have y0 : (0 : Int) ≤ (y : Int) := by omega
      have yN : (y : Int) < (n : Int) := by omega
      have yt : (y : Int).toNat = y := by omega
      have g0 : ¬ b = w.heap.size := by omega
      have g1 : ¬ w.heap.size = b := by omega
      have HJ := Lib.hid (And.intro hz (And.intro hk hlt))
      have HY := Lib.hid (And.intro hy hPk)
      subst hz
      clear hk hlt hcell hy hPk lb
      have HF2 : Hid (Intw (wr.setCell ⟨w.heap.size, y, none⟩ (.int .i64 (k : Int))) w.heap.size n (srS q (k + 1))) := Lib.hid ((HF.out.store HY.out.2 (k : Int)).congr fun i hi => by have hn := srS_next HP.out HJ.out.2.2 hi; rw [HY.out.1] at hn; exact hn)
      have HB2 : Hid (Below w.heap.size w (wr.setCell ⟨w.heap.size, y, none⟩ (.int .i64 (k : Int)))) := Lib.hid (by go_grown)
      clear HF HB
      have k16 : (k : Int) < 16 := by have h8 := HJ.out; have h9 := HN.out; clear hbl; omega
      go_wp2_with fail
      go_roundw
      case rel => exact ⟨(k : Int) + 1, k + 1, by first | rfl | (rw [show wrap64 ((k : Int) + 1) = (k : Int) + 1 by simp only [wrap64]; omega]), by omega, by have := HJ.out; omega, HF2, HB2, by first | exact hs | (simp; exact hs)⟩
      case measure => have h9 := HJ.out.2.2; first | (simp [intOf]; done) | (simp [intOf]; omega)
    · obtain rfl : k = n := Nat.le_antisymm hk (Nat.le_of_not_lt hlt)
      have hzn : ¬ z < (k : Int) := by rw [hz]; exact Int.lt_irrefl _
      have LF : Hid (Intw wr w.heap.size k (fun y => ((q y : Nat) : Int))) := Lib.hid (HF.out.congr fun i hi => srS_all HP.out hi)
      obtain ⟨wp, hw⟩ : ∃ z, z = wr := ⟨wr, rfl⟩
      subst hw
      clear hz hk hlt HF
      go_wp2_with (refine wpList_make_full _ rfl (.tmp 28) (.tmp 28) 27 rfl wp.heap.size 4 i1 _ 1 Try.underlying27 HI'.out.1 HI'.out.2.1 HI'.out.2.2.1 .i64 .i64 _ _ k rfl rfl (by simp) (by simp) ?c1 ?c2 ?c3 ?_)
      case c1 => rw [HI'.out.2.2.2]; have := HN.out; omega
      case c2 => unfold maxLen; have := HN.out; omega
      intro w2 hown hgrow
      have HS : Hid (Bow w2 wp.heap.size k (fun _ => false)) := Lib.hid (Bow.of_made hown fun i hi => made_bool k i hi)
      have hs2 : wp.heap.size < w2.heap.size := (hown.lt _ rfl).2
      have DW : Below wp.heap.size wp w2 := Below.grown (Below.refl _ _) hgrow (Nat.le_refl _) (fun k hk => by cases hk)
      have HB2 : Hid (Below w.heap.size w w2) := Lib.hid (HB.out.trans (DW.mono HB.out.size))
      have LF2 := Lib.hid (LF.out.keep DW)
      have HSZ : Hid (w.heap.size < wp.heap.size ∧ wp.heap.size < w2.heap.size) := Lib.hid ⟨hs, hs2⟩
      clear hown hgrow DW LF HB hs hs2 hbl
      go_wp2_with fail
      go_loopw [7, 32] (fun lv iv wo => ∃ (V : Value) (t L : Nat) (s kk G C : Nat → Nat) (fs : Nat → Bool) (top : Nat), V = lv ∧ iv = .int .i64 (t : Int) ∧ t ≤ k ∧ L ≤ t ∧ Hid (Lpp h p q t L s kk) ∧ Hid (∀ i, i < L → kk i ≤ k) ∧ Hid (Intw wo w.heap.size k (fun y => ((q y : Nat) : Int))) ∧ Hid (Bow wo wp.heap.size k fs) ∧ Hid (∀ x, x < k → (fs x = true ↔ LIn p q L s kk x)) ∧
          Hid (RowsV wo w2.heap.size top V L (fun i => 2 * kk i) G C (fun i j => ((lpF p q (s i) j : Nat) : Int))) ∧ Hid (Below w.heap.size w wo) ∧ w2.heap.size ≤ wo.heap.size) (fun _ iv _ => k - (intOf iv).toNat)
      case atStart => exact ⟨_, 0, 0, id, id, id, id, fun _ => false, w2.heap.size, rfl, rfl, Nat.zero_le _, Nat.le_refl _, Lib.hid (lpp_zero h p q id id), Lib.hid (fun i hi => by omega), LF2, HS, Lib.hid (fun x _ => ⟨(fun e => by cases e), fun e => absurd e lin_zero⟩), Lib.hid (RowsV.nil _ _ _ _ _ _), HB2, Nat.le_refl _⟩
      case round =>
        clear HS LF2 HB2
        obtain ⟨V, t, L, s, kk, G, C, fs, top, rfl, rfl, ht, hL, HLP, HKK, HSR, HSE, HFS, HV, HBW, hws⟩ := hrel
        obtain ⟨wo, hw⟩ : ∃ z, z = wr := ⟨wr, rfl⟩
        subst hw
        by_cases hlt : t < k
        · have hlt' : (t : Int) < (k : Int) := by omega
          have t0 : (0 : Int) ≤ (t : Int) := by omega
          have t16 : (t : Int) < 16 := by have h9 := HN.out; omega
          have HT := Lib.hid (And.intro ht (And.intro hlt hL))
          have HTOP : Hid (top ≤ wo.heap.size) := Lib.hid HV.out.top
          clear ht hlt hL
          go_wp2_with fail
          go_loopw [9, 10] (fun lv iv wr => ∃ (V' : Value) (j x : Nat) (fx : Nat → Bool), V' = lv ∧ iv = .int .i64 (x : Int) ∧ x < k ∧ Hid (itt p q t j = x) ∧ Hid (∀ j', j' < j → ¬ Sn p q (LIn p q L s kk) t j' (itt p q t j')) ∧ Hid (Intw wr w.heap.size k (fun y => ((q y : Nat) : Int))) ∧ Hid (Bow wr wp.heap.size k fx) ∧ Hid (∀ y, y < k → (fx y = true ↔ Sn p q (LIn p q L s kk) t j y)) ∧
              Hid (RowsV wr w2.heap.size top V L (fun i => 2 * kk i) G C (fun i j => ((lpF p q (s i) j : Nat) : Int))) ∧ Hid (wr.ownsRow wo.heap.size 3 1 V' (2 * j) (cellsI (fun i => ((lpF p q t i : Nat) : Int)) (2 * j))) ∧ Hid (Below w.heap.size w wr) ∧ wo.heap.size ≤ wr.heap.size) (fun lv _ _ => 2 * k - lenV lv)
          case atStart => exact ⟨_, 0, t, fs, rfl, rfl, HT.out.2.1, Lib.hid rfl, Lib.hid (fun j' hj => by omega), HSR, HSE, Lib.hid (fun y hy => (HFS.out y hy).trans sn_zero.symm), HV, Lib.hid (World.ownsRow_nil _ _ _ _), HBW, Nat.le_refl _⟩
          case round =>
            clear HSR HSE HFS HV HBW
            obtain ⟨V', j, x, fx, rfl, rfl, hx, HX, HNS, HSR, HSE, HFX, HV, HO, HBW, hwr⟩ := hrel
            have HP2 : Hid (Pm (2 * h) p q) := Lib.hid (by rw [← HN.out.2.2]; exact HP.out)
            have x0 : (0 : Int) ≤ (x : Int) := by omega
            have xk : (x : Int) < (k : Int) := by omega
            have xt : (x : Int).toNat = x := by omega
            have x16 : x < 16 := by have h9 := HN.out; omega
            have hlen := lenV_own HO.out
            obtain ⟨c0, c1⟩ := HSE.out x hx
            cases hfx : fx x with
            | false =>
              rw [hfx] at c0
              obtain ⟨u, hu⟩ : ∃ u, pt x = u := ⟨_, rfl⟩
              have huk : u < k := by have h9 := HN.out; rw [← hu, h9.2.2]; exact pt_lt (by omega)
              obtain ⟨y, hy⟩ : ∃ y, p u = y := ⟨_, rfl⟩
              have hyk : y < k := by rw [← hy]; exact HP.out.lp u huk
              obtain ⟨v, hv⟩ : ∃ v, pt y = v := ⟨_, rfl⟩
              have hvk : v < k := by have h9 := HN.out; rw [← hv, h9.2.2]; exact pt_lt (by omega)
              obtain ⟨z, hz⟩ : ∃ z, q v = z := ⟨_, rfl⟩
              have hzk : z < k := by rw [← hz]; exact HP.out.lq v hvk
              have hux : ¬ u = x := by rw [← hu]; exact pt_ne x
              have hux' : ¬ x = u := fun e => hux e.symm
              have HZ : Hid (itt p q t (j + 1) = z) := Lib.hid (by
                show tt p q (itt p q t j) = z
                rw [HX.out]
                unfold tt ax
                rw [hu, hy, hv, hz])
              have HNS2 : Hid (∀ j', j' < j + 1 → ¬ Sn p q (LIn p q L s kk) t j' (itt p q t j')) := Lib.hid (fun j' hj' => by
                by_cases e : j' = j
                · subst e
                  rw [HX.out]
                  intro h
                  have := (HFX.out x hx).2 h
                  rw [hfx] at this
                  cases this
                · exact HNS.out j' (by omega))
              have hjk : j < k := by
                have := loop_le HP2.out (by rw [← HN.out.2.2]; exact HT.out.2.1) HNS2.out
                have h9 := HN.out.2.2
                omega
              have HFX2 : Hid (∀ y, y < k → (updB (updB fx x true) u true y = true ↔ Sn p q (LIn p q L s kk) t (j + 1) y)) := Lib.hid (fun y hy => by
                rw [sn_succ, HX.out, hu, ← HFX.out y hy]
                unfold updB
                by_cases e1 : y = u
                · rw [if_pos e1]; exact ⟨fun _ => Or.inr (Or.inr e1), fun _ => rfl⟩
                · rw [if_neg e1]
                  by_cases e2 : y = x
                  · rw [if_pos e2]; exact ⟨fun _ => Or.inr (Or.inl e2), fun _ => rfl⟩
                  · rw [if_neg e2]; exact ⟨Or.inl, fun h => h.elim id fun h => h.elim (fun h => absurd h e2) fun h => absurd h e1⟩)
              obtain ⟨d0, d1⟩ := HSE.out u huk
              have hsz := HSZ.out
              have hle := HBW.out.size
              have lwp : wp.heap.size < wr.heap.size := by omega
              have gwp : ¬ wp.heap.size = w.heap.size := by omega
              obtain ⟨W2, hW2⟩ : ∃ W2, W2 = (wr.setCell ⟨wp.heap.size, x, none⟩ (.bool true)).setCell ⟨wp.heap.size, u, none⟩ (.bool true) := ⟨_, rfl⟩
              have HW2 := Lib.hid hW2
              have hzW : W2.heap.size = wr.heap.size := by rw [hW2]; simp
              have HSE2 : Hid (Bow W2 wp.heap.size k (updB (updB fx x true) u true)) := Lib.hid (by rw [hW2]; exact (HSE.out.store hx true).store huk true)
              have HSR2 : Hid (Intw W2 w.heap.size k (fun y => ((q y : Nat) : Int))) := Lib.hid (by rw [hW2]; exact (HSR.out.other gwp).other gwp)
              have HV2 : Hid (RowsV W2 w2.heap.size top V L (fun i => 2 * kk i) G C (fun i j => ((lpF p q (s i) j : Nat) : Int))) := Lib.hid (by rw [hW2]; exact (HV.out.set hsz.2).set hsz.2)
              have HO2 : Hid (W2.ownsRow wo.heap.size 3 1 V' (2 * j) (cellsI (fun i => ((lpF p q t i : Nat) : Int)) (2 * j))) := Lib.hid (by rw [hW2]; exact own_set (own_set HO.out (by omega)) (by omega))
              have HB3 : Hid (Below w.heap.size w W2) := Lib.hid (by
                rw [hW2]
                exact (HBW.out.setCell (by simp; omega) _).setCell (by simp; omega) _)
              have HM := Lib.hid (And.intro hlen hjk)
              have HLE2 := Lib.hid (And.intro hwr (And.intro hws hzW))
              have HQ := Lib.hid (And.intro hu (And.intro hy (And.intro hv (And.intro hz (And.intro huk (And.intro hyk (And.intro hvk hzk)))))))
              have u0 : (0 : Int) ≤ (u : Int) := by omega
              have uk : (u : Int) < (k : Int) := by omega
              have ut : (u : Int).toNat = u := by omega
              clear hW2 HSE HSR HV HO HBW HNS HFX hsz hle hzW hlen hjk hwr hws hu hy hv hz huk hyk hvk hzk hx hfx
              go_upto_region 17 with (go_at_call 89; refine (partner_to x16 HQ.out.1 _).mono ?_; rintro e w' ⟨rfl, rfl⟩)
              rw [← HW2.out]
              have HOA : Hid ((W2.alloc (Obj.cells #[.int .i64 (x : Int), .int .i64 (u : Int)] 3)).ownsRow wo.heap.size 3 1 V' (2 * j) (cellsI (fun i => ((lpF p q t i : Nat) : Int)) (2 * j))) := Lib.hid (HO2.out.alloc _)
              clear HW2 HO2 lwp gwp c0 c1 d0 d1
              go_wp2_with (at_builtin; refine wpList_append_lies _ rfl (.tmp 49) (.tmp 52) 28 rfl wo.heap.size 3 i0 _ 1 8 Try.underlying28 HI.out.1 HI.out.2.1 HI.out.2.2.1 HI.out.2.2.2 rfl (by decide) V' (2 * j) (cellsI (fun i => ((lpF p q t i : Nat) : Int)) (2 * j)) rfl HOA.out ⟨W2.heap.size, 0, none⟩ 2 2 [.int .i64 (x : Int), .int .i64 (u : Int)] rfl rfl ?d1 ?d2 (by omega) ?d3 ?d4 ?d5 _ rfl ?_)
              try (case d1 => exact fun j u hu => World.news_of_block (cs := #[.int .i64 (x : Int), .int .i64 _]) (heap_new W2 _) j u hu)
              try (case d2 => first | (intro u hu; simp only [List.mem_cons, List.not_mem_nil, or_false] at hu; rcases hu with rfl | rfl <;> rfl) | rfl)
              case d3 => unfold maxLen; have h8 := HM.out; have h9 := HN.out; omega
              case d4 => have h8 := HM.out; have h9 := HN.out; omega
              try (case d5 => have h8 := HLE2.out; simp; omega)
              intro g cap' w5 hown' hgrow hor hlg
              have hlt5 := HOA.out.lt
              have hne : ∀ b, b < wo.heap.size → some b ≠ V'.ownBlock := fun b hb e => by have := (hlt5 b e.symm).1; omega
              have hal : Below W2.heap.size W2 (W2.alloc (Obj.cells #[.int .i64 (x : Int), .int .i64 (u : Int)] 3)) := (Below.refl _ _).alloc (Nat.le_refl _) _
              have hs3 := HLE2.out
              have hs4 := HSZ.out
              have hs5 := hgrow.size
              simp only [World.size_alloc] at hs5
              have HSR5 : Hid (Intw w5 w.heap.size k (fun y => ((q y : Nat) : Int))) := Lib.hid ((HSR2.out.keep hal).grown hgrow (hne _ (by omega)))
              have HSE5 : Hid (Bow w5 wp.heap.size k (updB (updB fx x true) u true)) := Lib.hid ((HSE2.out.keep hal).grown hgrow (hne _ (by omega)))
              have HV5 : Hid (RowsV w5 w2.heap.size top V L (fun i => 2 * kk i) G C (fun i j => ((lpF p q (s i) j : Nat) : Int))) := Lib.hid ((HV2.out.keep hal).grown hgrow (fun b e => by have h7 := (hlt5 b e).1; have h8 := HTOP.out; omega))
              have HO5 : Hid (w5.ownsRow wo.heap.size 3 1 (.slice (some ⟨g, 0, none⟩) (2 * j + 2) cap') (2 * (j + 1)) (cellsI (fun i => ((lpF p q t i : Nat) : Int)) (2 * (j + 1)))) := Lib.hid (by
                have e : cellsI (fun i => ((lpF p q t i : Nat) : Int)) (2 * (j + 1)) = cellsI (fun i => ((lpF p q t i : Nat) : Int)) (2 * j) ++ [.int .i64 (x : Int), .int .i64 (u : Int)] := by
                  show cellsI _ (2 * j + 1 + 1) = _
                  rw [cellsI_succ, cellsI_succ, lpF_even, lpF_odd, HX.out, HQ.out.1, List.append_assoc]; rfl
                rw [e]
                exact hown')
              have HB5 : Hid (Below w.heap.size w w5) := Lib.hid (Below.grown (HB3.out.alloc HB3.out.size _) hgrow (by simp; have := HB3.out.size; omega) (fun p hp => by have h7 := (hlt5 p hp).1; omega))
              have hw5 : wo.heap.size ≤ w5.heap.size := by omega
              obtain ⟨b, o, hao, hcell⟩ := (HC.out.keep HB5.out) (by have h9 := HN.out; omega)
              subst hao
              have p0 := hcell u HQ.out.2.2.2.2.1
              simp only [HQ.out.2.1] at p0
              have q0 := (HSR5.out v HQ.out.2.2.2.2.2.2.1).1
              simp only [HQ.out.2.2.2.1] at q0
              have v0 : (0 : Int) ≤ (v : Int) := by omega
              have vk : (v : Int) < (k : Int) := by have h8 := HQ.out; omega
              have vt : (v : Int).toNat = v := by omega
              have y16 : y < 16 := by have h8 := HQ.out; have h9 := HN.out; omega
              clear hown' hgrow hor hlt5 hne hal hs3 hs4 hs5 hcell HSR2 HSE2 HV2 HB3
              go_wp2_with (go_at_call 89; refine (partner_to y16 HQ.out.2.2.1 _).mono ?_; rintro e w' ⟨rfl, rfl⟩)
              go_roundw
              case rel => exact ⟨_, j + 1, z, updB (updB fx x true) u true, rfl, rfl, HQ.out.2.2.2.2.2.2.2, HZ, HNS2, HSR5, HSE5, HFX2, HV5, HO5, HB5, hw5⟩
              case measure => have h8 := HM.out; show 2 * k - (2 * j + 2) < 2 * k - lenV V'; rw [h8.1]; omega
            | true =>
              rw [hfx] at c0
              have HSJ : Hid (Sn p q (LIn p q L s kk) t j x) := Lib.hid ((HFX.out x hx).1 hfx)
              have t16' : (t : Int) + 1 ≤ 16 := by omega
              cases j with
              | zero =>
                obtain ⟨ao', cap', rfl⟩ : ∃ ao' cap', V' = .slice ao' 0 cap' := by
                  rcases HO.out.2 with ⟨h, _⟩ | ⟨g, cap, cur, h, _⟩
                  · exact ⟨_, _, h⟩
                  · exact ⟨_, _, h⟩
                have HLP2 : Hid (Lpp h p q (t + 1) L s kk) := Lib.hid (lpp_in HLP.out (by
                  have h7 := sn_zero.1 HSJ.out
                  have h8 : t = x := HX.out
                  rw [h8]; exact h7))
                have HFS2 : Hid (∀ y, y < k → (fx y = true ↔ LIn p q L s kk y)) := Lib.hid (fun y hy => (HFX.out y hy).trans sn_zero)
                have hsz2 : w2.heap.size ≤ wr.heap.size := by omega
                clear HFX HO HNS hlen hfx hx c1 HSJ HLP HX
                go_wp2_with fail
                go_roundw
                case rel => exact ⟨_, t + 1, L, s, kk, G, C, fx, top, rfl, by first | rfl | go_num, by have h8 := HT.out; omega, by have h8 := HT.out; omega, HLP2, HKK, HSR, HSE, HFS2, HV, HBW, hsz2⟩
                case measure => have h8 := HT.out; first | (simp [intOf]; done) | (simp [intOf]; omega)
              | succ j =>
                obtain ⟨g, cap', rfl, hgB, hgs, _, _⟩ := own_fm HO.out (by omega)
                obtain ⟨m, hm⟩ : ∃ m, 2 * (j + 1) = m := ⟨_, rfl⟩
                have h0 : ¬ LIn p q L s kk t := fun h => HNS.out 0 (by omega) (Or.inl h)
                have he : itt p q t (j + 1) = t := loop_end HP2.out (lpp_cls HP2.out HLP.out) (by rw [← HN.out.2.2]; exact HT.out.2.1) h0 HNS.out (by rw [HX.out]; exact HSJ.out)
                have hjk : j + 1 ≤ k := by
                  have := loop_le HP2.out (by rw [← HN.out.2.2]; exact HT.out.2.1) HNS.out
                  have h9 := HN.out.2.2
                  omega
                have HLP2 : Hid (Lpp h p q (t + 1) (L + 1) (fun i => if i = L then t else s i) (fun i => if i = L then j + 1 else kk i)) := Lib.hid (lpp_new HP2.out HLP.out (by rw [← HN.out.2.2]; exact HT.out.2.1) h0 (by omega) he)
                have HFS2 : Hid (∀ y, y < k → (fx y = true ↔ LIn p q (L + 1) (fun i => if i = L then t else s i) (fun i => if i = L then j + 1 else kk i) y)) := Lib.hid (fun y hy => (HFX.out y hy).trans lin_succ.symm)
                have HKK2 : Hid (∀ i, i < L + 1 → (if i = L then j + 1 else kk i) ≤ k) := Lib.hid (fun i hi => by
                  by_cases e : i = L
                  · rw [if_pos e]; exact hjk
                  · rw [if_neg e]; exact HKK.out i (by omega))
                have HWR : Hid (Intw wr g m (fun i => ((lpF p q t i : Nat) : Int))) := Lib.hid (by rw [← hm]; exact Intw.of_own HO.out fun i hi => cellsI_get _ hi)
                have hbr : Below wr.heap.size wr (wr.alloc (Obj.cells #[.slice (some ⟨g, 0, none⟩) m cap'] 28)) := (Below.refl _ _).alloc (Nat.le_refl _) _
                have HVA := Lib.hid (HV.out.keep hbr)
                have HWA := Lib.hid (HWR.out.keep hbr)
                have HSRA := Lib.hid (HSR.out.keep hbr)
                have HSEA := Lib.hid (HSE.out.keep hbr)
                have hsz2 : w2.heap.size ≤ wr.heap.size := by omega
                have HG := Lib.hid (And.intro hgB (And.intro hgs (And.intro hjk hm)))
                have m0 : (0 : Int) < (m : Int) := by omega
                clear HFX HO HNS hfx hx c1 HSJ HLP HX HKK HSR HSE HV HWR hbr h0 he hgB hgs hjk
                rw [hm] at hlen
                clear hlen
                have HM2 := Lib.hid hm
                rw [hm]
                clear hm
                go_wp2_with (at_builtin; refine wpList_append_lies _ rfl (.tmp 65) (.tmp 67) 52 rfl w2.heap.size 28 i2 _ 1 24 Try.underlying52 HSL.out.1 HSL.out.2.1 HSL.out.2.2.1 HSL.out.2.2.2 rfl (by decide) V L (rowsV G (fun i => 2 * kk i) C L) rfl HVA.out.own ⟨wr.heap.size, 0, none⟩ 1 1 [.slice (some ⟨g, 0, none⟩) m cap'] rfl rfl ?e1 ?e2 (by omega) ?e3 ?e4 ?e5 _ rfl ?_)
                try (case e1 => exact fun j u hu => World.news_of_block (cs := #[.slice (some ⟨g, 0, none⟩) m cap']) (heap_new wr _) j u hu)
                try (case e2 => first | (intro u hu; simp only [List.mem_cons, List.not_mem_nil, or_false] at hu; subst hu; rfl) | rfl)
                case e3 => unfold maxLen; have h8 := HT.out; have h9 := HN.out; omega
                case e4 => have h8 := HT.out; have h9 := HN.out; omega
                try (case e5 => simp; omega)
                intro g' cap2 w5 hown' hgrow hor hlg
                have hlt5 := HVA.out.own.lt
                have hne : ∀ b, b < w2.heap.size → some b ≠ V.ownBlock := fun b hb e => by have := (hlt5 b e.symm).1; omega
                have hs4 := HSZ.out
                have hs5 := hgrow.size
                simp only [World.size_alloc] at hs5
                have HSR5 : Hid (Intw w5 w.heap.size k (fun y => ((q y : Nat) : Int))) := Lib.hid (HSRA.out.grown hgrow (hne _ (by omega)))
                have HSE5 : Hid (Bow w5 wp.heap.size k fx) := Lib.hid (HSEA.out.grown hgrow (hne _ (by omega)))
                have HV5 : Hid (RowsV w5 w2.heap.size w5.heap.size (.slice (some ⟨g', 0, none⟩) (L + 1) cap2) (L + 1) (fun i => 2 * (if i = L then j + 1 else kk i)) (updN G L g) (updN C L cap') (fun i j => ((lpF p q (if i = L then t else s i) j : Nat) : Int))) := Lib.hid ((HVA.out.append (f := fun i => ((lpF p q t i : Nat) : Int)) HWA.out (by have h8 := HTOP.out; have h9 := HG.out; omega) (by have h9 := HG.out; omega) (by have h9 := HG.out; simp; omega) hown' hgrow (hor.imp id (fun h => by first | exact Nat.le_of_eq h.symm | (simp at h ⊢; omega) | (simp; omega) | omega)) hlg).congr (fun i hi => by
                  unfold updN
                  by_cases e : i = L
                  · subst e
                    simp only [if_pos]
                    exact ⟨HG.out.2.2.2.symm, fun _ _ => trivial⟩
                  · simp only [e, if_false]
                    exact ⟨trivial, fun _ _ => trivial⟩))
                have HB5 : Hid (Below w.heap.size w w5) := Lib.hid (Below.grown (HBW.out.alloc HBW.out.size _) hgrow (by simp; have := HBW.out.size; omega) (fun p hp => by have h7 := (hlt5 p hp).1; omega))
                have hw5 : w2.heap.size ≤ w5.heap.size := by omega
                clear hown' hgrow hor hlt5 hne hs4 hs5 HVA HWA HSRA HSEA HBW
                go_wp2_with fail
                go_roundw
                case rel => exact ⟨_, t + 1, L + 1, _, _, _, _, fx, _, rfl, by first | rfl | go_num, by have h8 := HT.out; omega, by have h8 := HT.out; omega, HLP2, HKK2, HSR5, HSE5, HFS2, HV5, HB5, hw5⟩
                case measure => have h8 := HT.out; first | (simp [intOf]; done) | (simp [intOf]; omega)
        · have hkt : k ≤ t := by omega
          have hnl : ¬ (t : Int) < (k : Int) := by omega
          have hL1 : 0 < L := by
            obtain ⟨i, hi, _⟩ := HLP.out.cov 0 (by have h9 := HN.out; omega)
            omega
          obtain ⟨gV, cV, rfl, _, _, _, _⟩ := own_fm HV.out.own hL1
          have HLL : Hid (Lps h p q L s kk) := Lib.hid (lpp_lps (by
            have e : t = 2 * h := by have h9 := HN.out; omega
            rw [← e]; exact HLP.out))
          have HR : Hid (LpsR h w.heap.size p q wo (.returned (.slice (some ⟨gV, 0, none⟩) L cV))) := Lib.hid ⟨L, cV, gV, top, s, kk, G, C, rfl, HLL.out, hL1, by have h9 := HN.out; omega, fun i hi => by have h8 := HKK.out i hi; have h9 := HN.out; omega, HV.out.base (by have h8 := HSZ.out; omega)⟩
          clear HLP HKK HSR HSE HFS HV HLL hL ht hlt hkt hL1 hws
          go_wp2_with fail
          refine bodyPost_ret (v := .slice (some ⟨gV, 0, none⟩) L cV) (by simp [results, Try.results83, go_sem]) rfl ⟨HR.out, HBW.out⟩
end Go.Proofs.Ytfilofnkiocbeaa
