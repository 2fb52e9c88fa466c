import Derived.Test.YtkkcnhhfdicppaaLt7
import Derived.Test.YtkkcnhhfdicppaaMtT
import Derived.Test.YtkkcnhhfdicppaaDt7
import Derived.Deep.QuietTactic
import Derived.BigQuiet
namespace Go.Proofs.Ytkkcnhhfdicppaa
open Go.RowKit Lay
theorem sameXY2 (x y : Int) (w : World) : (Op.equalIn 10000 26 (.agg #[.int .i64 x, .int .i64 y]) (.agg #[.int .i64 x, .int .i64 y])).run Try.prog w = .ok true w := by
  rw [sameXY]; simp
/-- Together, of two paths that are right: they clash, or cross as often as their ends say. -/
theorem pTogether_par (Wn Hn : Nat) (M B : Int) (nb cb n cpp m cpq b : Nat) (ao ap aq : Option Addr) (XB YB X Y U V : Nat → Int) (w : World) (hv : vaG Wn Hn M B nb XB YB = true) (e0 : chE Wn Hn (blkN XB YB nb) X Y (n + 1) = 0) (e1 : chE Wn Hn (blkN XB YB nb) U V (m + 1) = 0)
    (hn : nb ≤ 9223372036854775807) (hc : XYs w ao nb XB YB) (hk : w.heap[b]? = some (.cells #[.slice ap (n + 1) cpp, .slice aq (m + 1) cpq] 22 (0, 0))) (hp : XYs w ap (n + 1) X Y) (hq : XYs w aq (m + 1) U V) (hrp : R2 X Y (n + 1)) (hrq : R2 U V (m + 1)) :
    Calls Try.prog 22 #[.agg #[.int .i64 Wn, .int .i64 Hn, .int .i64 M, .int .i64 B, .slice ao nb cb], .slice (some ⟨b, 0, none⟩) 2 2] w fun e w' => ∃ (al : Option Addr) (cl L : Nat) (k : Int), e = .returned (.tuple #[.slice al L cl, .int .i64 k]) ∧ (k = 73 ∨ k = 0 ∧ ∀ P : Nat → Int, P 0 = riP Wn Hn (X 0) (Y 0) → P 1 = riP Wn Hn (X n) (Y n) → P 2 = riP Wn Hn (U 0) (V 0) → P 3 = riP Wn Hn (U m) (V m) → muO P = true → ((L : Int).tmod 2 == 1) = muR P) ∧ Below w.heap.size w w' := by
  have hE : erN (fun j => chE Wn Hn (blkN XB YB nb) (sl2 X U j) (sl2 Y V j) (sl2 (n + 1) (m + 1) j)) 2 = 0 := by
    simp only [erN, sl2, if_true, e0]
    exact e1
  have h1 := (paB_iff.1 (chE_ok.1 e0).1).1.2
  have h2 := (paB_iff.1 (chE_ok.1 e1).1).1.2
  refine (pTogether_ok Wn Hn M B nb cb ao XB YB 2 (some ⟨b, 0, none⟩) (sl2 ap aq) (sl2 (n + 1) (m + 1)) (sl2 cpp cpq) (sl2 X U) (sl2 Y V) w hv hE hn hc (PSl.two hk hp hq) (fun j hj => by
    have hj2 : j = 0 ∨ j = 1 := by omega
    rcases hj2 with rfl | rfl
    · exact ⟨by simp only [sl2]; omega, hrp⟩
    · exact ⟨by simp only [sl2]; omega, hrq⟩)).mono ?_
  rintro e w1 h
  rcases h with ⟨rfl, _, hb⟩ | ⟨al, cl, rfl, hall, hb⟩
  · exact ⟨none, 0, 0, 73, rfl, Or.inl rfl, hb⟩
  · exact ⟨al, cl, _, 0, rfl, Or.inr ⟨rfl, fun P p0 p1 p2 p3 ho => par_end e0 e1 hall p0 p1 p2 p3 ho⟩, hb⟩
theorem chE_R2 {Wn Hn : Nat} {K : Int → Int → Bool} {X Y : Nat → Int} {n : Nat} (hW : Wn ≤ 30) (hH : Hn ≤ 30) (h : chE Wn Hn K X Y n = 0) : R2 X Y n := fun k hk => by
  have := (opB_iff.1 (opA_iff.1 (chE_ok.1 h).2 k hk)).1
  omega
set_option maxRecDepth 100000 in
set_option maxHeartbeats 64000000 in
theorem bundled_any (Wn Hn : Nat) (M B : Int) (nb cb mp cq : Nat) (ao sa : Option Addr) (XB YB : Nat → Int) (PA : Nat → Option Addr) (N C : Nat → Nat) (X Y : Nat → Nat → Int) (w : World) (hv : vaG Wn Hn M B nb XB YB = true) (hm5 : mp ≤ 5) (hcq : mp ≤ cq) (hE : ∀ j, j < mp → chE Wn Hn (blkN XB YB nb) (X j) (Y j) (N j) = 0 ∧ N j ≤ 200)
    (hn : nb ≤ 9223372036854775807) (hc : XYs w ao nb XB YB) (hp : PSl w sa mp PA N C X Y) :
    Calls Try.prog 37 #[.agg #[.int .i64 Wn, .int .i64 Hn, .int .i64 M, .int .i64 B, .slice ao nb cb], .slice sa mp cq] w fun e w' => e = .returned (.bool true) ∧ Below w.heap.size w w' := by
  have HC := Lib.hid hc
  have HP := Lib.hid hp
  have HE := Lib.hid hE
  have HV := Lib.hid hv
  obtain ⟨hnum, _⟩ := vaG_num hv
  have hW9 : Wn ≤ 30 := by omega
  have hH9 : Hn ≤ 30 := by omega
  have HN1 : Hid (∀ j, j < mp → 1 ≤ N j) := Lib.hid (fun j hj => (paB_iff.1 (chE_ok.1 (hE j hj).1).1).1.1)
  have hsame := sameXY2
  clear hc hp hE hv hnum
  go_enter Try.func37, Try.ntmps37
  have KG0 : Hid ((w.alloc (.cells #[.int .i64 Wn, .int .i64 Hn, .int .i64 M, .int .i64 B, .slice ao nb cb] 24)).heap[w.heap.size]? = some (.cells #[.int .i64 Wn, .int .i64 Hn, .int .i64 M, .int .i64 B, .slice ao nb cb] 24 (0, 0))) := Lib.hid (heap_alloc_new w _)
  go_wp2_with fail
  obtain ⟨w0, hw0⟩ : ∃ z, z = w.alloc (.cells #[.int .i64 Wn, .int .i64 Hn, .int .i64 M, .int .i64 B, .slice ao nb cb] 24) := ⟨_, rfl⟩
  rw [← hw0] at KG0 ⊢
  have HB0 : Hid (Below w.heap.size w w0) := Lib.hid (by rw [hw0]; go_grown)
  have hz0 : w.heap.size < w0.heap.size := by rw [hw0]; simp
  clear hw0
  go_loopg [24] mp (fun gg v24 wr => ∃ i : Nat, v24 = .int .i64 i ∧ i ≤ mp ∧ Hid (mp - i ≤ gg) ∧ Hid (Below w0.heap.size w0 wr))
  case atStart => exact ⟨0, rfl, Nat.zero_le _, Lib.hid (Nat.le_refl _), Lib.hid (Below.refl _ _)⟩
  case round =>
    obtain ⟨i, rfl, hi, HG, HB⟩ := hrel
    have HGG : Hid (mp - i ≤ gk) := Lib.hid HG.out
    clear HG
    by_cases hlt : i < mp
    case pos =>
      obtain ⟨bs, os, hse, hcell⟩ := (HP.out.keep (HB0.out.trans (HB.out.mono (Nat.le_of_lt hz0)))) (by omega)
      subst hse
      obtain ⟨c0, _⟩ := hcell i hlt
      have hNi := HN1.out i hlt
      obtain ⟨n, hnn⟩ : ∃ z, N i = z + 1 := ⟨N i - 1, by omega⟩
      obtain ⟨ai, hai⟩ : ∃ z, PA i = z := ⟨_, rfl⟩
      obtain ⟨ci, hci⟩ : ∃ z, C i = z := ⟨_, rfl⟩
      rw [hai, hnn, hci] at c0
      have HNI := Lib.hid (And.intro hai (And.intro hnn hci))
      have hlt2 : (i : Int) < mp := by omega
      have hicq : (i : Int) ≤ cq := by omega
      have hi0 : (0 : Int) ≤ i := by omega
      clear hcell hai hnn hci hNi
      obtain ⟨bp, op, hpe, _⟩ : ∃ b o, ai = some ⟨b, o, none⟩ ∧ True := by
        obtain ⟨b', o', _, h'⟩ := HP.out (by omega)
        have h2 := (h' i hlt).2
        rw [HNI.out.1, HNI.out.2.1] at h2
        obtain ⟨b, o, he, _⟩ := h2 (by omega)
        exact ⟨b, o, he, trivial⟩
      subst hpe
      go_wp2_with fail
      obtain ⟨wo, hwo⟩ : ∃ z, z = wr := ⟨wr, rfl⟩
      subst hwo
      go_loopg [33] i (fun gg v33 wr => ∃ k : Nat, v33 = .int .i64 k ∧ k ≤ i ∧ Hid (i - k ≤ gg) ∧ Hid (Below w0.heap.size w0 wr))
      case atStart => exact ⟨0, rfl, Nat.zero_le _, Lib.hid (Nat.le_refl _), HB⟩
      case round =>
        obtain ⟨k, rfl, hk, HG, HB'⟩ := hrel
        clear HB c0
        have HGI : Hid (i - k ≤ gk) := Lib.hid HG.out
        clear HG
        by_cases hlk : k < i
        case neg =>
          obtain rfl : k = i := by omega
          go_wp2_with fail
          go_roundg (mp - (k + 1))
          case measure => have := HGG.out; omega
          case rel => exact ⟨k + 1, by go_num, by omega, Lib.hid (Nat.le_refl _), HB'⟩
        have hbw : Below w.heap.size w wr := HB0.out.trans (HB'.out.mono (Nat.le_of_lt hz0))
        obtain ⟨bs', os', hse, hcell⟩ := (HP.out.keep hbw) (by omega)
        cases hse
        obtain ⟨c0, hxk⟩ := hcell k (by omega)
        obtain ⟨_, hxi⟩ := hcell i hlt
        have hNk := HN1.out k (by omega)
        obtain ⟨m, hmm⟩ : ∃ z, N k = z + 1 := ⟨N k - 1, by omega⟩
        obtain ⟨aj, haj⟩ : ∃ z, PA k = z := ⟨_, rfl⟩
        obtain ⟨cj, hcj⟩ : ∃ z, C k = z := ⟨_, rfl⟩
        have e0 := (HE.out i hlt).1
        have e1 := (HE.out k (by omega)).1
        rw [HNI.out.2.1] at e0
        rw [hmm] at e1
        rw [haj, hmm, hcj] at c0
        rw [haj, hmm] at hxk
        rw [HNI.out.1, HNI.out.2.1] at hxi
        clear haj hmm hcj hcell hNk
        obtain ⟨bq, oq, hqe, hcq'⟩ := hxk (by omega)
        subst hqe
        have r0 := chE_R2 hW9 hH9 e0
        have r1 := chE_R2 hW9 hH9 e1
        have hon : ∀ kk, kk < n + 1 → onB Wn Hn (X i kk) (Y i kk) = true := fun kk hk => onB_iff.2 (opB_iff.1 (opA_iff.1 (chE_ok.1 e0).2 kk hk)).1
        have hom : ∀ kk, kk < m + 1 → onB Wn Hn (X k kk) (Y k kk) = true := fun kk hk => onB_iff.2 (opB_iff.1 (opA_iff.1 (chE_ok.1 e1).2 kk hk)).1
        have HXI := Lib.hid hxi
        have HXK := Lib.hid hxk
        have HEE := Lib.hid (And.intro e0 (And.intro e1 (And.intro r0 r1)))
        have HOO := Lib.hid (And.intro hon hom)
        obtain ⟨W2, hW2⟩ : ∃ z, z = wr.alloc (.cells #[.slice (some ⟨bp, op, none⟩) (n + 1) ci, .slice (some ⟨bq, oq, none⟩) (m + 1) cj] 22) := ⟨_, rfl⟩
        have hc2 : Below wr.heap.size wr W2 := by rw [hW2]; exact bal (Below.refl _ _) _
        have HK2 : Hid (W2.heap[wr.heap.size]? = some (.cells #[.slice (some ⟨bp, op, none⟩) (n + 1) ci, .slice (some ⟨bq, oq, none⟩) (m + 1) cj] 22 (0, 0))) := Lib.hid (by rw [hW2]; exact heap_alloc_new wr _)
        have hzw : w0.heap.size ≤ wr.heap.size := HB'.out.size
        have HB2 : Hid (Below w.heap.size w W2) := Lib.hid (hbw.trans (hc2.mono (by omega)))
        have HB02 : Hid (Below w0.heap.size w0 W2) := Lib.hid (HB'.out.trans (hc2.mono hzw))
        have hz2 : w0.heap.size ≤ W2.heap.size := HB02.out.size
        have KGr : Hid (wr.heap[w.heap.size]? = some (.cells #[.int .i64 Wn, .int .i64 Hn, .int .i64 M, .int .i64 B, .slice ao nb cb] 24 (0, 0))) := Lib.hid ((HB'.out.block _ hz0).trans KG0.out)
        have HXI2 := Lib.hid (hxi.keep hc2)
        have HXK2 := Lib.hid (hxk.keep hc2)
        have HW2 := Lib.hid hW2
        have hlk2 : (k : Int) < i := by omega
        obtain ⟨g0, g1, g2, g3, g4⟩ : wr.cell? ⟨w.heap.size, 0, none⟩ = some (.int .i64 Wn) ∧ wr.cell? ⟨w.heap.size, 1, none⟩ = some (.int .i64 Hn) ∧ wr.cell? ⟨w.heap.size, 2, none⟩ = some (.int .i64 M) ∧ wr.cell? ⟨w.heap.size, 3, none⟩ = some (.int .i64 B) ∧ wr.cell? ⟨w.heap.size, 4, none⟩ = some (.slice ao nb cb) := ⟨cell_of_blk KGr.out rfl, cell_of_blk KGr.out rfl, cell_of_blk KGr.out rfl, cell_of_blk KGr.out rfl, cell_of_blk KGr.out rfl⟩
        clear hbw hxi hxk hcq' e0 e1 r0 r1 hon hom hc2 hW2
        go_wp2_with fail
        rw [← HW2.out]
        refine (pTogether_par Wn Hn M B nb cb n ci m cj wr.heap.size ao (some ⟨bp, op, none⟩) (some ⟨bq, oq, none⟩) XB YB (X i) (Y i) (X k) (Y k) W2 HV.out HEE.out.1 HEE.out.2.1 hn (HC.out.keep HB2.out) HK2.out HXI2.out HXK2.out HEE.out.2.2.1 HEE.out.2.2.2).mono ?_
        rintro e w1 ⟨al, cl, L, kk, rfl, hpar, hb⟩
        have HB1 : Hid (Below w.heap.size w w1) := Lib.hid (HB2.out.trans (hb.mono (by omega)))
        have HB01 : Hid (Below w0.heap.size w0 w1) := Lib.hid (HB02.out.trans (hb.mono hz2))
        have KG1 : Hid (w1.heap[w.heap.size]? = some (.cells #[.int .i64 Wn, .int .i64 Hn, .int .i64 M, .int .i64 B, .slice ao nb cb] 24 (0, 0))) := Lib.hid ((HB01.out.block _ hz0).trans KG0.out)
        have hz1 : w0.heap.size ≤ w1.heap.size := HB01.out.size
        obtain ⟨bp', op', hpe', hcp⟩ := (HXI2.out.keep hb) (by omega)
        cases hpe'
        obtain ⟨bq', oq', hqe', hcq2⟩ := (HXK2.out.keep hb) (by omega)
        cases hqe'
        have k0 := hcp 0 (by omega)
        have k1 := hcp n (by omega)
        have k2 := hcq2 0 (by omega)
        have k3 := hcq2 m (by omega)
        rw [Nat.zero_mul, Nat.add_zero] at k0 k2
        have on0 := HOO.out.1 0 (by omega)
        have on1 := HOO.out.1 n (by omega)
        have on2 := HOO.out.2 0 (by omega)
        have on3 := HOO.out.2 m (by omega)
        have hPAR := hpar
        obtain ⟨x0, hx0⟩ : ∃ z, X i 0 = z := ⟨_, rfl⟩
        obtain ⟨y0, hy0⟩ : ∃ z, Y i 0 = z := ⟨_, rfl⟩
        obtain ⟨x1, hx1⟩ : ∃ z, X i n = z := ⟨_, rfl⟩
        obtain ⟨y1, hy1⟩ : ∃ z, Y i n = z := ⟨_, rfl⟩
        obtain ⟨u0, hu0⟩ : ∃ z, X k 0 = z := ⟨_, rfl⟩
        obtain ⟨v0, hv0⟩ : ∃ z, Y k 0 = z := ⟨_, rfl⟩
        obtain ⟨u1, hu1⟩ : ∃ z, X k m = z := ⟨_, rfl⟩
        obtain ⟨v1, hv1⟩ : ∃ z, Y k m = z := ⟨_, rfl⟩
        rw [hx0, hy0] at k0 on0
        rw [hx1, hy1] at k1 on1
        rw [hu0, hv0] at k2 on2
        rw [hu1, hv1] at k3 on3
        rw [hx0, hy0, hx1, hy1, hu0, hv0, hu1, hv1] at hPAR
        obtain ⟨P, hP⟩ : ∃ P : Nat → Int, P = fun k => riP Wn Hn (eX x0 x1 u0 u1 k) (eX y0 y1 v0 v1 k) := ⟨_, rfl⟩
        have hPR : kk = 73 ∨ kk = 0 ∧ (muO P = true → ((L : Int).tmod 2 == 1) = muR P) := by
          rcases hPAR with h | ⟨h, h2⟩
          · exact Or.inl h
          · exact Or.inr ⟨h, h2 P (by rw [hP]; rfl) (by rw [hP]; rfl) (by rw [hP]; rfl) (by rw [hP]; rfl)⟩
        have hon : allOn Wn Hn (eX x0 x1 u0 u1) (eX y0 y1 v0 v1) 4 = true := by
          simp only [allOn, eX, on0, on1, on2, on3, Bool.and_self]
        obtain ⟨ok, hok⟩ : ∃ z, muO P = z := ⟨_, rfl⟩
        obtain ⟨mb, hmb⟩ : ∃ z, muV true ok (muR P) = z := ⟨_, rfl⟩
        obtain ⟨me, hme⟩ : ∃ z, muE true ok = z := ⟨_, rfl⟩
        have HM : Hid (∀ w', Below w.heap.size w w' → Calls Try.prog 14 #[.agg #[.int .i64 Wn, .int .i64 Hn, .int .i64 M, .int .i64 B, .slice ao nb cb], .agg #[.int .i64 x0, .int .i64 y0], .agg #[.int .i64 x1, .int .i64 y1], .agg #[.int .i64 u0, .int .i64 v0], .agg #[.int .i64 u1, .int .i64 v1]] w' fun e w'' => e = .returned (.tuple #[.bool mb, .int .i64 me]) ∧ Below w'.heap.size w' w'') := Lib.hid (fun w' hb' => by
          have h := pMust_ok Wn Hn M B nb cb ao XB YB (eX x0 x1 u0 u1) (eX y0 y1 v0 v1) P w' (HC.out.keep hb') HV.out (fun k => by rw [hP]) true ok hon hok
          rw [hmb, hme] at h
          exact h)
        have HOK := Lib.hid (And.intro hok (And.intro hmb hme))
        have HPR := Lib.hid hPR
        have hz1w : w.heap.size < w1.heap.size := by omega
        have G0 : Hid (∀ w' : World, Below w1.heap.size w1 w' → w'.heap[w.heap.size]? = some (.cells #[.int .i64 Wn, .int .i64 Hn, .int .i64 M, .int .i64 B, .slice ao nb cb] 24 (0, 0)) ∧ XyAt w' bp op x0 y0 ∧ XyAt w' bp (op + n * 2) x1 y1 ∧ XyAt w' bq oq u0 v0 ∧ XyAt w' bq (oq + m * 2) u1 v1) := Lib.hid (fun w' hb => ⟨(hb.block _ hz1w).trans KG1.out, k0.keep hb, k1.keep hb, k2.keep hb, k3.keep hb⟩)
        have hlt1 : (n : Int) < (n : Int) + 1 := by omega
        have hlt3 : (m : Int) < (m : Int) + 1 := by omega
        have hn2 : n ≤ 1000 := by have := (paB_iff.1 (chE_ok.1 HEE.out.1).1).1.2; omega
        have hm2 : m ≤ 1000 := by have := (paB_iff.1 (chE_ok.1 HEE.out.2.1).1).1.2; omega
        have hwl : IntKind.i64.wrap (n : Int) = n := by rw [IntKind.wrap_i64]; omega
        have hwm : IntKind.i64.wrap (m : Int) = m := by rw [IntKind.wrap_i64]; omega
        have hlt4 : (0 : Int) < (n : Int) + 1 := by omega
        have hlt5 : (0 : Int) < (m : Int) + 1 := by omega
        have hlt6 : (0 : Int) ≤ (n : Int) := by omega
        have hlt7 : (0 : Int) ≤ (m : Int) := by omega
        have HQ0 : Below w1.heap.size w1 w1.drew := (Below.refl _ _).drew
        clear hcp hcq2 k0 k1 k2 k3 on0 on1 on2 on3 hPAR hx0 hy0 hx1 hy1 hu0 hv0 hu1 hv1 hP hPR hon hok hmb hme hb hpar HB02 HB2 HK2 HXI2 HXK2 HW2 HEE HOO HXI HXK g0 g1 g2 g3 g4 KGr HB' c0
        go_upto_region 8 with fail
        refine wp_region_held_drew (S := fun w' => w'.heap[w.heap.size]? = some (.cells #[.int .i64 Wn, .int .i64 Hn, .int .i64 M, .int .i64 B, .slice ao nb cb] 24 (0, 0)) ∧ XyAt w' bp op x0 y0 ∧ XyAt w' bp (op + n * 2) x1 y1 ∧ XyAt w' bq oq u0 v0 ∧ XyAt w' bq (oq + m * 2) u1 v1) (by kernel_rfl) (G0.out _ HQ0) (fun hHeld => ?_)
        refine wpAnyH_take (i := 0) (oi := _) (v := _) rfl (by kernel_rfl) (by kernel_rfl) (by kernel_rfl) (fun _ _ _ h => h) (yieldsIf_load_mid (by rfl) 24 _ rfl (w.heap.size) 0 rfl ([.int .i64 Wn, .int .i64 Hn, .int .i64 M, .int .i64 B, .slice ao nb cb]) _ (fun w' hh => range_row hh.1 0 [.int .i64 Wn, .int .i64 Hn, .int .i64 M, .int .i64 B, .slice ao nb cb] (fun j hj => by simp only [Nat.zero_add, List.getElem?_toArray])) Try.underlying24 rfl (by kernel_rfl)) (by assumption) ?_
        try change wpAnyH _ _ _ _ _ _ _ (Act.put _ (some 46) _) _
        try simp only [act_all]
        refine wpAnyH_take (i := 1) (oi := _) (v := ?_) rfl (by kernel_rfl) (by kernel_rfl) (by kernel_rfl) (fun _ _ _ h => h) (Or.inl ⟨by rfl, ?_⟩) (by assumption) ?_
        rotate_left
        · intro w hSw; obtain ⟨s0, ⟨s1, s2⟩, ⟨s3, s4⟩, ⟨s5, s6⟩, s7, s8⟩ := hSw; go_simp; (try with_reducible rfl)
        try change wpAnyH _ _ _ _ _ _ _ (Act.put _ (some 47) _) _
        try simp only [act_all]
        refine wpAnyH_take (i := 2) (oi := _) (v := ?_) rfl (by kernel_rfl) (by kernel_rfl) (by kernel_rfl) (fun _ _ _ h => h) (Or.inl ⟨by rfl, ?_⟩) (by assumption) ?_
        rotate_left
        · intro w hSw; obtain ⟨s0, ⟨s1, s2⟩, ⟨s3, s4⟩, ⟨s5, s6⟩, s7, s8⟩ := hSw; go_simp; (try with_reducible rfl)
        try change wpAnyH _ _ _ _ _ _ _ (Act.put _ (some 48) _) _
        try simp only [act_all]
        refine wpAnyH_take (i := 3) (oi := _) (v := _) rfl (by kernel_rfl) (by kernel_rfl) (by kernel_rfl) (fun _ _ _ h => h) (yieldsIf_load_mid (by rfl) 26 _ rfl bp _ rfl ([.int .i64 x0, .int .i64 y0]) _ (fun w' hh => by simpa using range_xy hh.2.1) Try.underlying26 rfl (by kernel_rfl)) (by assumption) ?_
        try change wpAnyH _ _ _ _ _ _ _ (Act.put _ (some 49) _) _
        try simp only [act_all]
        refine wpAnyH_take (i := 4) (oi := _) (v := ?_) rfl (by kernel_rfl) (by kernel_rfl) (by kernel_rfl) (fun _ _ _ h => h) (Or.inl ⟨by rfl, ?_⟩) (by assumption) ?_
        rotate_left
        · intro w hSw; obtain ⟨s0, ⟨s1, s2⟩, ⟨s3, s4⟩, ⟨s5, s6⟩, s7, s8⟩ := hSw; go_simp; (try with_reducible rfl)
        try change wpAnyH _ _ _ _ _ _ _ (Act.put _ (some 50) _) _
        try simp only [act_all]
        refine wpAnyH_take (i := 5) (oi := _) (v := ?_) rfl (by kernel_rfl) (by kernel_rfl) (by kernel_rfl) (fun _ _ _ h => h) (Or.inl ⟨by rfl, ?_⟩) (by assumption) ?_
        rotate_left
        · intro w hSw; obtain ⟨s0, ⟨s1, s2⟩, ⟨s3, s4⟩, ⟨s5, s6⟩, s7, s8⟩ := hSw; go_simp; (try with_reducible rfl)
        try change wpAnyH _ _ _ _ _ _ _ (Act.put _ (some 51) _) _
        try simp only [act_all]
        refine wpAnyH_take (i := 6) (oi := _) (v := ?_) rfl (by kernel_rfl) (by kernel_rfl) (by kernel_rfl) (fun _ _ _ h => h) (Or.inl ⟨by rfl, ?_⟩) (by assumption) ?_
        rotate_left
        · intro w hSw; obtain ⟨s0, ⟨s1, s2⟩, ⟨s3, s4⟩, ⟨s5, s6⟩, s7, s8⟩ := hSw; go_simp; (try with_reducible rfl)
        try change wpAnyH _ _ _ _ _ _ _ (Act.put _ (some 52) _) _
        try simp only [act_all]
        refine wpAnyH_take (i := 7) (oi := _) (v := ?_) rfl (by kernel_rfl) (by kernel_rfl) (by kernel_rfl) (fun _ _ _ h => h) (Or.inl ⟨by rfl, ?_⟩) (by assumption) ?_
        rotate_left
        · intro w hSw; obtain ⟨s0, ⟨s1, s2⟩, ⟨s3, s4⟩, ⟨s5, s6⟩, s7, s8⟩ := hSw; go_simp; (try with_reducible rfl)
        try change wpAnyH _ _ _ _ _ _ _ (Act.put _ (some 53) _) _
        try simp only [act_all]
        refine wpAnyH_take (i := 8) (oi := _) (v := ?_) rfl (by kernel_rfl) (by kernel_rfl) (by kernel_rfl) (fun _ _ _ h => h) (Or.inl ⟨by rfl, ?_⟩) (by assumption) ?_
        rotate_left
        · intro w hSw; obtain ⟨s0, ⟨s1, s2⟩, ⟨s3, s4⟩, ⟨s5, s6⟩, s7, s8⟩ := hSw; go_simp; (try with_reducible rfl)
        try change wpAnyH _ _ _ _ _ _ _ (Act.put _ (some 54) _) _
        try simp only [act_all]
        refine wpAnyH_take (i := 9) (oi := _) (v := _) rfl (by kernel_rfl) (by kernel_rfl) (by kernel_rfl) (fun _ _ _ h => h) (yieldsIf_load_mid (by rfl) 26 _ rfl bp _ rfl ([.int .i64 x1, .int .i64 y1]) _ (fun w' hh => by simpa using range_xy hh.2.2.1) Try.underlying26 rfl (by kernel_rfl)) (by assumption) ?_
        try change wpAnyH _ _ _ _ _ _ _ (Act.put _ (some 55) _) _
        try simp only [act_all]
        refine wpAnyH_take (i := 10) (oi := _) (v := ?_) rfl (by kernel_rfl) (by kernel_rfl) (by kernel_rfl) (fun _ _ _ h => h) (Or.inl ⟨by rfl, ?_⟩) (by assumption) ?_
        rotate_left
        · intro w hSw; obtain ⟨s0, ⟨s1, s2⟩, ⟨s3, s4⟩, ⟨s5, s6⟩, s7, s8⟩ := hSw; go_simp; (try with_reducible rfl)
        try change wpAnyH _ _ _ _ _ _ _ (Act.put _ (some 56) _) _
        try simp only [act_all]
        refine wpAnyH_take (i := 11) (oi := _) (v := ?_) rfl (by kernel_rfl) (by kernel_rfl) (by kernel_rfl) (fun _ _ _ h => h) (Or.inl ⟨by rfl, ?_⟩) (by assumption) ?_
        rotate_left
        · intro w hSw; obtain ⟨s0, ⟨s1, s2⟩, ⟨s3, s4⟩, ⟨s5, s6⟩, s7, s8⟩ := hSw; go_simp; (try with_reducible rfl)
        try change wpAnyH _ _ _ _ _ _ _ (Act.put _ (some 57) _) _
        try simp only [act_all]
        refine wpAnyH_take (i := 12) (oi := _) (v := _) rfl (by kernel_rfl) (by kernel_rfl) (by kernel_rfl) (fun _ _ _ h => h) (yieldsIf_load_mid (by rfl) 26 _ rfl bq _ rfl ([.int .i64 u0, .int .i64 v0]) _ (fun w' hh => by simpa using range_xy hh.2.2.2.1) Try.underlying26 rfl (by kernel_rfl)) (by assumption) ?_
        try change wpAnyH _ _ _ _ _ _ _ (Act.put _ (some 58) _) _
        try simp only [act_all]
        refine wpAnyH_take (i := 13) (oi := _) (v := ?_) rfl (by kernel_rfl) (by kernel_rfl) (by kernel_rfl) (fun _ _ _ h => h) (Or.inl ⟨by rfl, ?_⟩) (by assumption) ?_
        rotate_left
        · intro w hSw; obtain ⟨s0, ⟨s1, s2⟩, ⟨s3, s4⟩, ⟨s5, s6⟩, s7, s8⟩ := hSw; go_simp; (try with_reducible rfl)
        try change wpAnyH _ _ _ _ _ _ _ (Act.put _ (some 59) _) _
        try simp only [act_all]
        refine wpAnyH_take (i := 14) (oi := _) (v := ?_) rfl (by kernel_rfl) (by kernel_rfl) (by kernel_rfl) (fun _ _ _ h => h) (Or.inl ⟨by rfl, ?_⟩) (by assumption) ?_
        rotate_left
        · intro w hSw; obtain ⟨s0, ⟨s1, s2⟩, ⟨s3, s4⟩, ⟨s5, s6⟩, s7, s8⟩ := hSw; go_simp; (try with_reducible rfl)
        try change wpAnyH _ _ _ _ _ _ _ (Act.put _ (some 60) _) _
        try simp only [act_all]
        refine wpAnyH_take (i := 15) (oi := _) (v := ?_) rfl (by kernel_rfl) (by kernel_rfl) (by kernel_rfl) (fun _ _ _ h => h) (Or.inl ⟨by rfl, ?_⟩) (by assumption) ?_
        rotate_left
        · intro w hSw; obtain ⟨s0, ⟨s1, s2⟩, ⟨s3, s4⟩, ⟨s5, s6⟩, s7, s8⟩ := hSw; go_simp; (try with_reducible rfl)
        try change wpAnyH _ _ _ _ _ _ _ (Act.put _ (some 61) _) _
        try simp only [act_all]
        refine wpAnyH_take (i := 16) (oi := _) (v := ?_) rfl (by kernel_rfl) (by kernel_rfl) (by kernel_rfl) (fun _ _ _ h => h) (Or.inl ⟨by rfl, ?_⟩) (by assumption) ?_
        rotate_left
        · intro w hSw; obtain ⟨s0, ⟨s1, s2⟩, ⟨s3, s4⟩, ⟨s5, s6⟩, s7, s8⟩ := hSw; go_simp; (try with_reducible rfl)
        try change wpAnyH _ _ _ _ _ _ _ (Act.put _ (some 62) _) _
        try simp only [act_all]
        refine wpAnyH_take (i := 17) (oi := _) (v := ?_) rfl (by kernel_rfl) (by kernel_rfl) (by kernel_rfl) (fun _ _ _ h => h) (Or.inl ⟨by rfl, ?_⟩) (by assumption) ?_
        rotate_left
        · intro w hSw; obtain ⟨s0, ⟨s1, s2⟩, ⟨s3, s4⟩, ⟨s5, s6⟩, s7, s8⟩ := hSw; go_simp; (try with_reducible rfl)
        try change wpAnyH _ _ _ _ _ _ _ (Act.put _ (some 63) _) _
        try simp only [act_all]
        refine wpAnyH_take (i := 18) (oi := _) (v := _) rfl (by kernel_rfl) (by kernel_rfl) (by kernel_rfl) (fun _ _ _ h => h) (yieldsIf_load_mid (by rfl) 26 _ rfl bq _ rfl ([.int .i64 u1, .int .i64 v1]) _ (fun w' hh => by simpa using range_xy hh.2.2.2.2) Try.underlying26 rfl (by kernel_rfl)) (by assumption) ?_
        try change wpAnyH _ _ _ _ _ _ _ (Act.put _ (some 64) _) _
        try simp only [act_all]
        refine wpAnyH_ready (rs := [19]) (by kernel_rfl) (by simp) ?_
        refine AllReadyH.cons (o := _) rfl (fun K hK => ?_) AllReadyH.nil
        go_simp
        refine (HM.out _ (HB1.out.trans (HQ0.mono (Nat.le_of_lt hz1w)))).mono ?_
        rintro e_ t1 ⟨rfl, hb⟩
        have HQ1 : Below w1.heap.size w1 t1 := HQ0.trans (hb.mono HQ0.size)
        clear hb hHeld
        refine hK.out _ _ (G0.out _ HQ1) (fun hHeld => ?_)
        clear hK K
        try simp only [act_all]
        refine wpAnyH_take (i := 20) (oi := _) (v := ?_) rfl (by kernel_rfl) (by kernel_rfl) (by kernel_rfl) (fun _ _ _ h => h) (Or.inl ⟨by rfl, ?_⟩) (by assumption) ?_
        rotate_left
        · intro w hSw; obtain ⟨s0, ⟨s1, s2⟩, ⟨s3, s4⟩, ⟨s5, s6⟩, s7, s8⟩ := hSw; go_simp; (try with_reducible rfl)
        try change wpAnyH _ _ _ _ _ _ _ (Act.put _ (some 45) _) _
        try simp only [act_all]
        refine wpAnyH_take (i := 21) (oi := _) (v := ?_) rfl (by kernel_rfl) (by kernel_rfl) (by kernel_rfl) (fun _ _ _ h => h) (Or.inl ⟨by rfl, ?_⟩) (by assumption) ?_
        rotate_left
        · intro w hSw; obtain ⟨s0, ⟨s1, s2⟩, ⟨s3, s4⟩, ⟨s5, s6⟩, s7, s8⟩ := hSw; go_simp; (try with_reducible rfl)
        try change wpAnyH _ _ _ _ _ _ _ (Act.put _ (some 66) _) _
        try simp only [act_all]
        refine wpAnyH_take (i := 22) (oi := _) (v := ?_) rfl (by kernel_rfl) (by kernel_rfl) (by kernel_rfl) (fun _ _ _ h => h) (Or.inl ⟨by rfl, ?_⟩) (by assumption) ?_
        rotate_left
        · intro w hSw; obtain ⟨s0, ⟨s1, s2⟩, ⟨s3, s4⟩, ⟨s5, s6⟩, s7, s8⟩ := hSw; go_simp; (try with_reducible rfl)
        try change wpAnyH _ _ _ _ _ _ _ (Act.put _ (some 67) _) _
        try simp only [act_all]
        refine wpAnyH_take (i := 23) (oi := _) (v := ?_) rfl (by kernel_rfl) (by kernel_rfl) (by kernel_rfl) (fun _ _ _ h => h) (Or.inl ⟨by rfl, ?_⟩) (by assumption) ?_
        rotate_left
        · intro w hSw; obtain ⟨s0, ⟨s1, s2⟩, ⟨s3, s4⟩, ⟨s5, s6⟩, s7, s8⟩ := hSw; go_simp; (try with_reducible rfl)
        try change wpAnyH _ _ _ _ _ _ _ (Act.put _ (some 11) _) _
        try simp only [act_all]
        refine wpAnyH_take (i := 24) (oi := _) (v := ?_) rfl (by kernel_rfl) (by kernel_rfl) (by kernel_rfl) (fun _ _ _ h => h) (Or.inl ⟨by rfl, ?_⟩) (by assumption) ?_
        rotate_left
        · intro w hSw; obtain ⟨s0, ⟨s1, s2⟩, ⟨s3, s4⟩, ⟨s5, s6⟩, s7, s8⟩ := hSw; go_simp; (try with_reducible rfl)
        try change wpAnyH _ _ _ _ _ _ _ (Act.put _ (some 12) _) _
        try simp only [act_all]
        refine wpAnyH_done (by kernel_rfl) ?_ _
        clear hHeld
        have HB2 : Hid (Below w0.heap.size w0 t1) := Lib.hid (HB01.out.trans (HQ1.mono hz1))
        clear HQ0 HQ1 HB1 HB01 KG1 G0 HM hz1
        rcases HPR.out with rfl | ⟨rfl, hpr⟩
        ·
          go_wp2_with fail
          go_roundg (i - (k + 1))
          case measure => have := HGI.out; omega
          case rel => exact ⟨k + 1, by go_num, by omega, Lib.hid (Nat.le_refl _), HB2⟩
        cases ok with
        | false =>
          obtain ⟨_, hmb, hme⟩ := HOK.out
          have hme' : me = 2 := hme.symm
          have hmb' : mb = false := hmb.symm
          subst hme' hmb'
          clear hmb hme hpr
          go_wp2_with fail
          go_roundg (i - (k + 1))
          case measure => have := HGI.out; omega
          case rel => exact ⟨k + 1, by go_num, by omega, Lib.hid (Nat.le_refl _), HB2⟩
        | true =>
          obtain ⟨hok, hmb, hme⟩ := HOK.out
          have hme' : me = 0 := hme.symm
          subst hme'
          have hpb : ((L : Int).tmod 2 == 1) = mb := (hpr hok).trans hmb
          have hpc : (!mb == ((L : Int) % 2 == 1)) = false := by
            rw [Int.tmod_eq_emod_of_nonneg (by omega)] at hpb
            rw [hpb]
            cases mb <;> rfl
          clear hmb hme hok hpr HPR HOK hpb
          go_wp2_with fail
          go_roundg (i - (k + 1))
          case measure => have := HGI.out; omega
          case rel => exact ⟨k + 1, by go_num, by omega, Lib.hid (Nat.le_refl _), HB2⟩
    obtain rfl : i = mp := by omega
    have HB0r : Hid (Below w.heap.size w wr) := Lib.hid (HB0.out.trans (HB.out.mono (Nat.le_of_lt hz0)))
    have KGr : Hid (wr.heap[w.heap.size]? = some (.cells #[.int .i64 Wn, .int .i64 Hn, .int .i64 M, .int .i64 B, .slice ao nb cb] 24 (0, 0))) := Lib.hid ((HB.out.block _ hz0).trans KG0.out)
    have hzr : w.heap.size < wr.heap.size := by have := HB.out.size; omega
    have herr : erN (fun j => chE Wn Hn (blkN XB YB nb) (X j) (Y j) (N j)) i = 0 := by
      have key : ∀ m, m ≤ i → erN (fun j => chE Wn Hn (blkN XB YB nb) (X j) (Y j) (N j)) m = 0 := by
        intro m
        induction m with
        | zero => intro _; rfl
        | succ m ih => intro hm; simp only [erN]; rw [if_pos (ih (by omega))]; exact (HE.out m (by omega)).1
      exact key i (Nat.le_refl _)
    obtain ⟨g0, g1, g2, g3, g4⟩ : wr.cell? ⟨w.heap.size, 0, none⟩ = some (.int .i64 Wn) ∧ wr.cell? ⟨w.heap.size, 1, none⟩ = some (.int .i64 Hn) ∧ wr.cell? ⟨w.heap.size, 2, none⟩ = some (.int .i64 M) ∧ wr.cell? ⟨w.heap.size, 3, none⟩ = some (.int .i64 B) ∧ wr.cell? ⟨w.heap.size, 4, none⟩ = some (.slice ao nb cb) := ⟨cell_of_blk KGr.out rfl, cell_of_blk KGr.out rfl, cell_of_blk KGr.out rfl, cell_of_blk KGr.out rfl, cell_of_blk KGr.out rfl⟩
    have HER := Lib.hid herr
    clear HB HB0 KG0 hz0 herr HGG hlt
    go_wp2_with fail
    refine (pMatch_ok Wn Hn M B nb cb ao XB YB i cq sa PA N C X Y _ HV.out (by omega) HER.out hn (HC.out.keep HB0r.out) (HP.out.keep HB0r.out) (fun j hj => ⟨by have := (HE.out j hj).2; omega, chE_R2 hW9 hH9 (HE.out j hj).1⟩)).mono ?_
    rintro e w1 ⟨hb, h⟩
    have HB1 : Hid (Below w.heap.size w w1) := Lib.hid (HB0r.out.trans (hb.mono (Nat.le_of_lt hzr)))
    have KG1 : Hid (w1.heap[w.heap.size]? = some (.cells #[.int .i64 Wn, .int .i64 Hn, .int .i64 M, .int .i64 B, .slice ao nb cb] 24 (0, 0))) := Lib.hid ((hb.block _ hzr).trans KGr.out)
    have hz1 : w.heap.size < w1.heap.size := by have := hb.size; omega
    clear hb g0 g1 g2 g3 g4 HB0r KGr hzr HER
    rcases h with rfl | ⟨al, cl, rfl, hii, hev⟩
    · clear KG1 hz1
      go_wp2_with fail
      refine bodyPost_ret (v := .bool true) (by simp [results, Try.results37, go_sem]) rfl ⟨rfl, HB1.out⟩
    have HII := Lib.hid hii
    have HEV := Lib.hid hev
    clear hii hev
    go_wp2_with fail
    go_loopg [15, 109] i (fun gg v15 v109 wr => ∃ k : Nat, v109 = .int .i64 k ∧ v15 = .int .i64 (mxN N k : Nat) ∧ k ≤ i ∧ Hid (i - k ≤ gg) ∧ Hid (Below w1.heap.size w1 wr))
    case atStart => exact ⟨0, rfl, rfl, Nat.zero_le _, Lib.hid (Nat.le_refl _), Lib.hid (Below.refl _ _)⟩
    case round =>
      obtain ⟨k, rfl, rfl, hk, HG, HB⟩ := hrel
      have HGG : Hid (i - k ≤ gk) := Lib.hid HG.out
      clear HG
      by_cases hlt : k < i
      case pos =>
        obtain ⟨bs, os, hse, hcell⟩ := (HP.out.keep (HB1.out.trans (HB.out.mono (Nat.le_of_lt hz1)))) (by omega)
        subst hse
        obtain ⟨c0, _⟩ := hcell k hlt
        obtain ⟨ak, hak⟩ : ∃ z, PA k = z := ⟨_, rfl⟩
        obtain ⟨nk, hnk⟩ : ∃ z, N k = z := ⟨_, rfl⟩
        obtain ⟨ck, hck⟩ : ∃ z, C k = z := ⟨_, rfl⟩
        rw [hak, hnk, hck] at c0
        have HNK := Lib.hid hnk
        have hlt2 : (k : Int) < i := by omega
        clear hcell hak hnk hck
        go_wp2_with fail
        ·
          go_roundg (i - (k + 1))
          case measure => have := HGG.out; omega
          case rel =>
            refine ⟨k + 1, by go_num, ?_, by omega, Lib.hid (Nat.le_refl _), HB⟩
            have := HNK.out
            simp only [mxN, Value.int.injEq, true_and]
            omega
      obtain rfl : k = i := by omega
      obtain ⟨wo, hwo⟩ : ∃ z, z = wr := ⟨wr, rfl⟩
      subst hwo
      have hmx : mxN N k ≤ 200 := mxN_le (fun j hj => (HE.out j hj).2)
      obtain ⟨mx, hMX⟩ : ∃ z, mxN N k = z := ⟨_, rfl⟩
      have HGE : Hid (∀ j, j < k → N j ≤ mx) := Lib.hid (fun j hj => by rw [← hMX]; exact mxN_ge hj)
      rw [hMX] at hmx HII HEV ⊢
      clear hMX HGG
      go_wp2_with fail
      go_loopg [120] k (fun gg v120 wr => ∃ q : Nat, v120 = .int .i64 q ∧ q ≤ k ∧ Hid (k - q ≤ gg) ∧ Hid (Below w1.heap.size w1 wr))
      case atStart => exact ⟨0, rfl, Nat.zero_le _, Lib.hid (Nat.le_refl _), HB⟩
      case round =>
        obtain ⟨q, rfl, hq, HG, HB'⟩ := hrel
        clear HB
        have HGG : Hid (k - q ≤ gk) := Lib.hid HG.out
        clear HG
        by_cases hlq : q < k
        case neg =>
          have HBF : Hid (Below w.heap.size w wr) := Lib.hid (HB1.out.trans (HB'.out.mono (Nat.le_of_lt hz1)))
          have hlq2 : ¬ (q : Int) < k := by omega
          go_wp2_with fail
          refine bodyPost_ret (v := .bool true) (by simp [results, Try.results37, go_sem]) rfl ⟨rfl, HBF.out⟩
        have hlq2 : (q : Int) < k := by omega
        have hbw : Below w.heap.size w wr := HB1.out.trans (HB'.out.mono (Nat.le_of_lt hz1))
        obtain ⟨bs, os, hse, hcell⟩ := (HP.out.keep hbw) (by omega)
        subst hse
        obtain ⟨c0, hxk⟩ := hcell q hlq
        have hNk := HN1.out q hlq
        obtain ⟨n, hnn⟩ : ∃ z, N q = z + 1 := ⟨N q - 1, by omega⟩
        obtain ⟨aj, haj⟩ : ∃ z, PA q = z := ⟨_, rfl⟩
        obtain ⟨cj, hcj⟩ : ∃ z, C q = z := ⟨_, rfl⟩
        have e0 := (HE.out q hlq).1
        have hge := HGE.out q hlq
        have hev := HEV.out q hlq
        have h200 := (HE.out q hlq).2
        obtain ⟨ba, oa, hae, hac⟩ := (HII.out.keep HB'.out) (by omega)
        subst hae
        have d0 : wr.cell? ⟨ba, oa + q, none⟩ = some (.int .i64 ((mx - N q : Nat) : Int)) := hac q hlq
        rw [hnn] at e0 hge hev h200 d0
        rw [haj, hnn, hcj] at c0
        rw [haj, hnn] at hxk
        clear haj hnn hcj hcell hNk hac
        obtain ⟨t, ht⟩ : ∃ t, mx - (n + 1) = 2 * t := ⟨(mx - (n + 1)) / 2, by omega⟩
        obtain ⟨mq, hmq⟩ : ∃ z, mx = z + 1 := ⟨mx - 1, by omega⟩
        subst hmq
        have hlen : n + 1 + 2 * t = mq + 1 := by omega
        rw [ht] at d0
        have r0 := chE_R2 hW9 hH9 e0
        obtain ⟨bq, oq, hqe, hcq2⟩ := hxk (by omega)
        subst hqe
        have k0 := hcq2 0 (by omega)
        have k1 := hcq2 n (by omega)
        rw [Nat.zero_mul, Nat.add_zero] at k0
        obtain ⟨x0, hx0⟩ : ∃ z, X q 0 = z := ⟨_, rfl⟩
        obtain ⟨y0, hy0⟩ : ∃ z, Y q 0 = z := ⟨_, rfl⟩
        obtain ⟨x1, hx1⟩ : ∃ z, X q n = z := ⟨_, rfl⟩
        obtain ⟨y1, hy1⟩ : ∃ z, Y q n = z := ⟨_, rfl⟩
        rw [hx0, hy0] at k0
        rw [hx1, hy1] at k1
        have HX01 := Lib.hid (And.intro hx0 (And.intro hy0 (And.intro hx1 hy1)))
        have KGr : Hid (wr.heap[w.heap.size]? = some (.cells #[.int .i64 Wn, .int .i64 Hn, .int .i64 M, .int .i64 B, .slice ao nb cb] 24 (0, 0))) := Lib.hid ((HB'.out.block _ hz1).trans KG1.out)
        have HD : Hid (∀ w', Below wr.heap.size wr w' → Calls Try.prog 20 #[.agg #[.int .i64 Wn, .int .i64 Hn, .int .i64 M, .int .i64 B, .slice ao nb cb], .slice (some ⟨bq, oq, none⟩) (n + 1) cj, .int .i64 ((2 * t : Nat) : Int)] w' fun e w'' => ∃ v kk, e = .returned (.tuple #[v, .int .i64 kk]) ∧ Below w'.heap.size w' w'' ∧ (kk = 5 ∨ kk = 0 ∧ ∃ bo oo co, v = .slice (some ⟨bo, oo, none⟩) (mq + 1) co ∧ XyAt w'' bo oo x0 y0 ∧ XyAt w'' bo (oo + mq * 2) x1 y1)) := Lib.hid (fun w' hb' => by
          have hw9 : Below w.heap.size w w' := hbw.trans (hb'.mono hbw.size)
          refine (pDetour_ok Wn Hn M B nb cb ao XB YB (n + 1) cj (some ⟨bq, oq, none⟩) (X q) (Y q) ((2 * t : Nat) : Int) w' HV.out e0 t rfl (by omega) (by omega) hn (HC.out.keep hw9) (by omega) (hxk.keep hb') r0).mono ?_
          rintro e w'' ⟨hb2, hcase⟩
          rcases hcase with rfl | ⟨al2, cl2, X', Y', rfl, hxy, hlg⟩
          · exact ⟨_, 5, rfl, hb2, Or.inl rfl⟩
          · rw [hlen] at hxy hlg ⊢
            obtain ⟨bo, oo, rfl, hc3⟩ := hxy (by omega)
            have a0 := hc3 0 (by omega)
            have a1 := hc3 mq (by omega)
            have z1 := hlg.x1
            have z2 := hlg.y1
            rw [Nat.add_sub_cancel, Nat.add_sub_cancel] at z1 z2
            rw [hlg.x0, hlg.y0, hx0, hy0, Nat.zero_mul, Nat.add_zero] at a0
            rw [z1, z2, hx1, hy1] at a1
            exact ⟨_, 0, rfl, hb2, Or.inr ⟨rfl, bo, oo, cl2, rfl, a0, a1⟩⟩)
        have HK := Lib.hid (And.intro k0 k1)
        have G0 : Hid (∀ w' : World, Below wr.heap.size wr w' → w'.heap[w.heap.size]? = some (.cells #[.int .i64 Wn, .int .i64 Hn, .int .i64 M, .int .i64 B, .slice ao nb cb] 24 (0, 0)) ∧ w'.cell? ⟨ba, oa + q, none⟩ = some (.int .i64 ((2 * t : Nat) : Int))) := Lib.hid (fun w' hb => ⟨(hb.block _ (Nat.lt_of_lt_of_le hz1 HB'.out.size)).trans KGr.out, (World.cell?_of_block (hb.block _ (World.block_lt_of_cell? _ _ d0))).trans d0⟩)
        have HQ0 : Below wr.heap.size wr wr.drew := (Below.refl _ _).drew
        have hq0 : (0 : Int) ≤ q := by omega
        obtain ⟨tt, htt⟩ : ∃ z : Int, ((2 * t : Nat) : Int) = z := ⟨_, rfl⟩
        rw [htt] at HD G0
        clear hbw hxk hcq2 k0 k1 hx0 hy0 hx1 hy1 e0 r0 d0 ht htt hge hev
        go_upto_region 27 with fail
        refine wp_region_held_drew (S := fun w' => w'.heap[w.heap.size]? = some (.cells #[.int .i64 Wn, .int .i64 Hn, .int .i64 M, .int .i64 B, .slice ao nb cb] 24 (0, 0)) ∧ w'.cell? ⟨ba, oa + q, none⟩ = some (.int .i64 tt)) (by kernel_rfl) (G0.out _ HQ0) (fun hHeld => ?_)
        refine wpAnyH_take (i := 0) (oi := _) (v := _) rfl (by kernel_rfl) (by kernel_rfl) (by kernel_rfl) (fun _ _ _ h => h) (yieldsIf_load_mid (by rfl) 24 _ rfl (w.heap.size) 0 rfl ([.int .i64 Wn, .int .i64 Hn, .int .i64 M, .int .i64 B, .slice ao nb cb]) _ (fun w' hh => range_row hh.1 0 [.int .i64 Wn, .int .i64 Hn, .int .i64 M, .int .i64 B, .slice ao nb cb] (fun j hj => by simp only [Nat.zero_add, List.getElem?_toArray])) Try.underlying24 rfl (by kernel_rfl)) (by assumption) ?_
        try change wpAnyH _ _ _ _ _ _ _ (Act.put _ (some 126) _) _
        try simp only [act_all]
        refine wpAnyH_take (i := 1) (oi := _) (v := ?_) rfl (by kernel_rfl) (by kernel_rfl) (by kernel_rfl) (fun _ _ _ h => h) (Or.inl ⟨by rfl, ?_⟩) (by assumption) ?_
        rotate_left
        · intro w hSw; obtain ⟨s0, s1⟩ := hSw; go_simp; (try with_reducible rfl)
        try change wpAnyH _ _ _ _ _ _ _ (Act.put _ (some 127) _) _
        try simp only [act_all]
        refine wpAnyH_take (i := 2) (oi := _) (v := ?_) rfl (by kernel_rfl) (by kernel_rfl) (by kernel_rfl) (fun _ _ _ h => h) (Or.inl ⟨by rfl, ?_⟩) (by assumption) ?_
        rotate_left
        · intro w hSw; obtain ⟨s0, s1⟩ := hSw; go_simp; (try with_reducible rfl)
        try change wpAnyH _ _ _ _ _ _ _ (Act.put _ (some 128) _) _
        try simp only [act_all]
        refine wpAnyH_take (i := 3) (oi := _) (v := ?_) rfl (by kernel_rfl) (by kernel_rfl) (by kernel_rfl) (fun _ _ _ h => h) (Or.inl ⟨by rfl, ?_⟩) (by assumption) ?_
        rotate_left
        · intro w hSw; obtain ⟨s0, s1⟩ := hSw; go_simp; (try with_reducible rfl)
        try change wpAnyH _ _ _ _ _ _ _ (Act.put _ (some 129) _) _
        try simp only [act_all]
        refine wpAnyH_take (i := 4) (oi := _) (v := ?_) rfl (by kernel_rfl) (by kernel_rfl) (by kernel_rfl) (fun _ _ _ h => h) (Or.inl ⟨by rfl, ?_⟩) (by assumption) ?_
        rotate_left
        · intro w hSw; obtain ⟨s0, s1⟩ := hSw; go_simp; (try with_reducible rfl)
        try change wpAnyH _ _ _ _ _ _ _ (Act.put _ (some 130) _) _
        try simp only [act_all]
        refine wpAnyH_take (i := 5) (oi := _) (v := ?_) rfl (by kernel_rfl) (by kernel_rfl) (by kernel_rfl) (fun _ _ _ h => h) (Or.inl ⟨by rfl, ?_⟩) (by assumption) ?_
        rotate_left
        · intro w hSw; obtain ⟨s0, s1⟩ := hSw; go_simp; (try with_reducible rfl)
        try change wpAnyH _ _ _ _ _ _ _ (Act.put _ (some 131) _) _
        try simp only [act_all]
        refine wpAnyH_ready (rs := [6]) (by kernel_rfl) (by simp) ?_
        refine AllReadyH.cons (o := _) rfl (fun K hK => ?_) AllReadyH.nil
        go_simp
        refine (HD.out _ HQ0).mono ?_
        rintro e_ t1 ⟨v, kk, rfl, hb, hcase⟩
        have HQ1 : Below wr.heap.size wr t1 := HQ0.trans (hb.mono HQ0.size)
        clear hb hHeld
        refine hK.out _ _ (G0.out _ HQ1) (fun hHeld => ?_)
        clear hK K
        try simp only [act_all]
        refine wpAnyH_take (i := 7) (oi := _) (v := ?_) rfl (by kernel_rfl) (by kernel_rfl) (by kernel_rfl) (fun _ _ _ h => h) (Or.inl ⟨by rfl, ?_⟩) (by assumption) ?_
        rotate_left
        · intro w hSw; obtain ⟨s0, s1⟩ := hSw; go_simp; (try with_reducible rfl)
        try change wpAnyH _ _ _ _ _ _ _ (Act.put _ (some 125) _) _
        try simp only [act_all]
        refine wpAnyH_take (i := 8) (oi := _) (v := ?_) rfl (by kernel_rfl) (by kernel_rfl) (by kernel_rfl) (fun _ _ _ h => h) (Or.inl ⟨by rfl, ?_⟩) (by assumption) ?_
        rotate_left
        · intro w hSw; obtain ⟨s0, s1⟩ := hSw; go_simp; (try with_reducible rfl)
        try change wpAnyH _ _ _ _ _ _ _ (Act.put _ (some 133) _) _
        try simp only [act_all]
        refine wpAnyH_take (i := 9) (oi := _) (v := ?_) rfl (by kernel_rfl) (by kernel_rfl) (by kernel_rfl) (fun _ _ _ h => h) (Or.inl ⟨by rfl, ?_⟩) (by assumption) ?_
        rotate_left
        · intro w hSw; obtain ⟨s0, s1⟩ := hSw; go_simp; (try with_reducible rfl)
        try change wpAnyH _ _ _ _ _ _ _ (Act.put _ (some 134) _) _
        try simp only [act_all]
        refine wpAnyH_take (i := 10) (oi := _) (v := ?_) rfl (by kernel_rfl) (by kernel_rfl) (by kernel_rfl) (fun _ _ _ h => h) (Or.inl ⟨by rfl, ?_⟩) (by assumption) ?_
        rotate_left
        · intro w hSw; obtain ⟨s0, s1⟩ := hSw; go_simp; (try with_reducible rfl)
        try change wpAnyH _ _ _ _ _ _ _ (Act.put _ (some 20) _) _
        try simp only [act_all]
        refine wpAnyH_take (i := 11) (oi := _) (v := ?_) rfl (by kernel_rfl) (by kernel_rfl) (by kernel_rfl) (fun _ _ _ h => h) (Or.inl ⟨by rfl, ?_⟩) (by assumption) ?_
        rotate_left
        · intro w hSw; obtain ⟨s0, s1⟩ := hSw; go_simp; (try with_reducible rfl)
        try change wpAnyH _ _ _ _ _ _ _ (Act.put _ (some 21) _) _
        try simp only [act_all]
        refine wpAnyH_done (by kernel_rfl) ?_ _
        clear hHeld
        have HB2 : Hid (Below w1.heap.size w1 t1) := Lib.hid (HB'.out.trans (HQ1.mono HB'.out.size))
        have hkk0 := HK.out.1.keep HQ1
        have hkk1 := HK.out.2.keep HQ1
        clear HQ0 HQ1 G0 HD KGr
        rcases hcase with rfl | ⟨rfl, bo, oo, co, rfl, a0, a1⟩
        ·
          go_wp2_with fail
          go_roundg (k - (q + 1))
          case measure => have := HGG.out; omega
          case rel => exact ⟨q + 1, by go_num, by omega, Lib.hid (Nat.le_refl _), HB2⟩
        obtain ⟨a00, a01⟩ := a0
        obtain ⟨a10, a11⟩ := a1
        obtain ⟨p00, p01⟩ := hkk0
        obtain ⟨p10, p11⟩ := hkk1
        have l1 : (n : Int) < (n : Int) + 1 := by omega
        have l2 : (mq : Int) < (mq : Int) + 1 := by omega
        have l3 : (0 : Int) < (n : Int) + 1 := by omega
        have l4 : (0 : Int) < (mq : Int) + 1 := by omega
        have l5 : (0 : Int) ≤ (n : Int) := by omega
        have l6 : (0 : Int) ≤ (mq : Int) := by omega
        have l7 : IntKind.i64.wrap (n : Int) = n := by rw [IntKind.wrap_i64]; omega
        have l8 : IntKind.i64.wrap (mq : Int) = mq := by rw [IntKind.wrap_i64]; omega
        go_upto_region 29 with fail
        go_quiet (fail)
        have HB3 : Hid (Below w1.heap.size w1 (t1.drewN nq)) := Lib.hid (drewN_below HB2.out)
        clear a00 a01 a10 a11 p00 p01 p10 p11
        go_wp2_with fail
        go_roundg (k - (q + 1))
        case measure => have := HGG.out; omega
        case rel => exact ⟨q + 1, by go_num, by omega, Lib.hid (Nat.le_refl _), HB3⟩
end Go.Proofs.Ytkkcnhhfdicppaa
