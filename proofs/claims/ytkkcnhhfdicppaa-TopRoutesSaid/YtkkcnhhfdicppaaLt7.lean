import Derived.Test.YtkkcnhhfdicppaaJt7
import Derived.Test.YtkkcnhhfdicppaaMu7
import Derived.Test.YtkkcnhhfdicppaaAw7
namespace Lay
def sl2 {α : Type} (a b : α) : Nat → α
  | 0 => a
  | _ + 1 => b
def eX (a b c d : Int) (k : Nat) : Int := match k with | 0 => a | 1 => b | 2 => c | _ => d
theorem str_iff {a c : Int} : strU a c = true ↔ a ≠ -1 ∧ a = c := by unfold strU; simp
theorem arc_iff {u v : Int × Int × Int} : arcU u v = true ↔ (u.2.1 ≠ -1 ∧ u.2.1 = u.2.2) ∧ (v.2.1 ≠ -1 ∧ v.2.1 = v.2.2) ∧ u.2.1.tmod 2 ≠ v.2.1.tmod 2 := by
  unfold arcU
  simp only [Bool.and_eq_true, str_iff, decide_eq_true_eq]
/-- A use that goes straight through is none at an end. -/
theorem str_mid {X Y : Nat → Int} {n k : Nat} (hk : k < n + 1) (h1 : pvN X Y k ≠ -1) (h2 : pvN X Y k = wzN X Y (n + 1) k) : 0 < k ∧ k < n ∧ wyN X Y (k - 1) = wyN X Y k ∧ pvN X Y k = wyN X Y k := by
  cases k with
  | zero => exact absurd rfl h1
  | succ k =>
    simp only [pvN] at h1 h2 ⊢
    unfold wzN at h2
    by_cases h : k + 1 + 1 < n + 1
    · rw [if_pos h] at h2
      exact ⟨by omega, by omega, by rw [Nat.add_sub_cancel]; exact h2, h2⟩
    · rw [if_neg h] at h2
      exact absurd h2 h1
/-- Where all cells that both use are crossings, the paths go together. -/
theorem tog_of {Wn Hn n m : Nat} {X Y U V : Nat → Int} (hX : repN X Y (n + 1) = false) (hU : repN U V (m + 1) = false) (hg : ∀ k, k < n + 1 → OnG Wn Hn (X k) (Y k))
    (hall : ∀ j, j < Hn * Wn → boJ (sl2 X U) (sl2 Y V) (sl2 (n + 1) (m + 1)) Wn j = true → arJ (sl2 X U) (sl2 Y V) (sl2 (n + 1) (m + 1)) Wn j = true) : TogT X Y U V n m := by
  intro k j hk hj hx hy
  obtain ⟨a, b, c, d⟩ := hg k (by omega)
  obtain ⟨x, hxx⟩ : ∃ x : Nat, X k = x := ⟨(X k).toNat, by omega⟩
  obtain ⟨y, hyy⟩ : ∃ y : Nat, Y k = y := ⟨(Y k).toNat, by omega⟩
  have hlt : y * Wn + x < Hn * Wn := by
    have h : (y + 1) * Wn ≤ Hn * Wn := Nat.mul_le_mul_right _ (by omega)
    rw [Nat.succ_mul] at h
    omega
  have hm : (y * Wn + x) % Wn = x := by rw [Nat.mul_comm, Nat.mul_add_mod, Nat.mod_eq_of_lt (by omega)]
  have hd : (y * Wn + x) / Wn = y := by rw [Nat.mul_comm, Nat.mul_add_div (by omega), Nat.div_eq_of_lt (by omega)]; omega
  have h0 : blkN X Y (n + 1) (x : Nat) (y : Nat) = true := blkN_iff.2 ⟨k, by omega, hxx.symm, hyy.symm⟩
  have h1 : blkN U V (m + 1) (x : Nat) (y : Nat) = true := blkN_iff.2 ⟨j, by omega, by omega, by omega⟩
  have hb : boJ (sl2 X U) (sl2 Y V) (sl2 (n + 1) (m + 1)) Wn (y * Wn + x) = true := by
    unfold boJ bothT
    rw [hm, hd]
    simp only [sl2, h0, h1, Bool.and_true]
  have ha := hall _ hlt hb
  have hus : usJ (sl2 X U) (sl2 Y V) (sl2 (n + 1) (m + 1)) Wn (y * Wn + x) = [(0, pvN X Y k, wzN X Y (n + 1) k), (1, pvN U V j, wzN U V (m + 1) j)] := by
    unfold usJ
    rw [hm, hd]
    simp only [usA, sl2, List.nil_append]
    rw [usP_at hX (show k < n + 1 by omega) hxx.symm hyy.symm, usP_at hU (show j < m + 1 by omega) (show ((x : Nat) : Int) = U j by omega) (show ((y : Nat) : Int) = V j by omega)]
    rfl
  unfold arJ at ha
  rw [hus] at ha
  obtain ⟨⟨p1, p2⟩, ⟨q1, q2⟩, hne⟩ := arc_iff.1 ha
  obtain ⟨k1, k2, k3, k4⟩ := str_mid (by omega) p1 p2
  obtain ⟨j1, j2, j3, j4⟩ := str_mid (by omega) q1 q2
  refine ⟨k1, k2, j1, j2, k3, j3, ?_⟩
  change (pvN X Y k).tmod 2 ≠ (pvN U V j).tmod 2 at hne
  change pvN X Y k ≠ -1 at p1
  change pvN U V j ≠ -1 at q1
  rw [k4] at hne p1
  rw [j4] at hne q1
  have r1 := wyS_range (X k) (Y k) (X (k + 1)) (Y (k + 1))
  have r2 := wyS_range (U j) (V j) (U (j + 1)) (V (j + 1))
  change -1 ≤ wyN X Y k ∧ wyN X Y k < 4 at r1
  change -1 ≤ wyN U V j ∧ wyN U V j < 4 at r2
  rwa [Int.tmod_eq_emod_of_nonneg (by omega), Int.tmod_eq_emod_of_nonneg (by omega)] at hne
/-- Crossings of two paths whose ends lie on the rim. -/
theorem par_end {Wn Hn n m : Nat} {K : Int → Int → Bool} {X Y U V P : Nat → Int} (h0 : chE Wn Hn K X Y (n + 1) = 0) (h1 : chE Wn Hn K U V (m + 1) = 0)
    (hall : ∀ j, j < Hn * Wn → boJ (sl2 X U) (sl2 Y V) (sl2 (n + 1) (m + 1)) Wn j = true → arJ (sl2 X U) (sl2 Y V) (sl2 (n + 1) (m + 1)) Wn j = true)
    (p0 : P 0 = riP Wn Hn (X 0) (Y 0)) (p1 : P 1 = riP Wn Hn (X n) (Y n)) (p2 : P 2 = riP Wn Hn (U 0) (V 0)) (p3 : P 3 = riP Wn Hn (U m) (V m)) (ho : muO P = true) :
    (((csL (sl2 X U) (sl2 Y V) (sl2 (n + 1) (m + 1)) Wn (Hn * Wn)).length : Int).tmod 2 == 1) = muR P := by
  obtain ⟨a1, a2⟩ := chE_ok.1 h0
  obtain ⟨b1, b2⟩ := chE_ok.1 h1
  obtain ⟨_, c2, c3⟩ := paB_iff.1 a1
  obtain ⟨_, d2, d3⟩ := paB_iff.1 b1
  have hg : ∀ k, k < n + 1 → OnG Wn Hn (X k) (Y k) := fun k hk => (opB_iff.1 (opA_iff.1 a2 k hk)).1
  have hg2 : ∀ k, k < m + 1 → OnG Wn Hn (U k) (V k) := fun k hk => (opB_iff.1 (opA_iff.1 b2 k hk)).1
  have ht := tog_of (repN_iff.2 c2) (repN_iff.2 d2) hg hall
  have h := par_rim (W := Wn) (H := Hn) (P := P) (fun k hk => c3 k (by omega)) (fun k hk => d3 k (by omega)) d2 ht (fun k hk => hg k (by omega)) (fun k hk => hg2 k (by omega)) p0 p1 p2 p3 ho
  have hs := cell_sum (U := U) (V := V) (m := m + 1) c2 hg
  have hl := csL_len (sl2 X U) (sl2 Y V) (sl2 (n + 1) (m + 1)) Wn (Hn * Wn)
  have hl2 : ((csL (sl2 X U) (sl2 Y V) (sl2 (n + 1) (m + 1)) Wn (Hn * Wn)).length : Int) = sm (fun k => inT U V (m + 1) (X k) (Y k)) (n + 1) := hl.trans hs
  rw [Int.tmod_eq_emod_of_nonneg (by omega), hl2, Bool.eq_iff_iff, ← h]
  simp
end Lay
namespace Go
section
variable {P : Program} (w : World)
theorem run_equalIn_arr3 (d : Nat) {t e : TypeId} {k : IntKind} (a0 a1 a2 b0 b1 b2 : Int) (ht : P.underlying t = some (.array 3 e)) (he : P.underlying e = some (.int k)) (hs : ∀ w, (sizeOf e).run P w = .ok 1 w) :
    (Op.equalIn (d + 2) t (.agg #[.int k a0, .int k a1, .int k a2]) (.agg #[.int k b0, .int k b1, .int k b2])).run P w = .ok (a0 == b0 && (a1 == b1 && a2 == b2)) w := by
  rw [Op.equalIn]
  simp only [Sem.run_bind, run_underlying ht, Result.andThen_ok, hs]
  simp only [Std.Legacy.Range.forIn_eq_forIn_range', Std.Legacy.Range.size, List.range', List.forIn_cons, List.forIn_nil, Sem.run_bind, Nat.mul_one]
  have ha : ∀ w, (isAgg e).run P w = .ok false w := fun w => by simp [isAgg, run_underlying he]
  have hq : ∀ w a b, (Op.equalIn (d + 1) e (.int k a) (.int k b)).run P w = .ok (a == b) w := fun w a b => run_equalIn_int w d e k k a b he
  cases h0 : a0 == b0 <;> cases h1 : a1 == b1 <;> cases h2 : a2 == b2 <;> simp [ha, hq, h0, h1, h2, go_sem]
end
end Go
namespace Go.Proofs.Ytkkcnhhfdicppaa
open Go.RowKit Lay
theorem neA3 (a0 a1 a2 : Int) (w : World) : (binOp .neq 48 (.agg #[.int .i64 a0, .int .i64 a1, .int .i64 a2]) (.agg #[.int .i64 a0, .int .i64 a1, .int .i64 a2])).run Try.prog w = .ok (.bool false) w := by
  have h : (Op.equalIn 10000 48 (.agg #[.int .i64 a0, .int .i64 a1, .int .i64 a2]) (.agg #[.int .i64 a0, .int .i64 a1, .int .i64 a2])).run Try.prog w = .ok (a0 == a0 && (a1 == a1 && a2 == a2)) w :=
    run_equalIn_arr3 w 9998 a0 a1 a2 a0 a1 a2 Try.underlying48 Try.underlying3 (fun w => by kernel_rfl)
  simp only [binOp]
  simp [Op.equal, Op.maxDepth, h]
theorem PSl.two {w : World} {b : Nat} {ap aq : Option Addr} {np nq cpp cpq : Nat} {XP YP XQ YQ : Nat → Int} (h : w.heap[b]? = some (.cells #[.slice ap np cpp, .slice aq nq cpq] 22 (0, 0))) (hp : XYs w ap np XP YP) (hq : XYs w aq nq XQ YQ) :
    PSl w (some ⟨b, 0, none⟩) 2 (sl2 ap aq) (sl2 np nq) (sl2 cpp cpq) (sl2 XP XQ) (sl2 YP YQ) := fun _ => ⟨b, 0, rfl, fun j hj => by
  have hj2 : j = 0 ∨ j = 1 := by omega
  rcases hj2 with rfl | rfl
  · exact ⟨cell_of_blk h rfl, hp⟩
  · exact ⟨cell_of_blk h rfl, hq⟩⟩

set_option maxRecDepth 100000 in
set_option maxHeartbeats 32000000 in
theorem par_many1 (W H M B : Int) (nb cb np cpp nq cpq : Nat) (ao ap aq : Option Addr) (w : World) (h : 300 < np) :
    Calls Try.prog 6 #[.agg #[.int .i64 W, .int .i64 H, .int .i64 M, .int .i64 B, .slice ao nb cb], .slice ap np cpp, .slice aq nq cpq] w fun e w' => e = .returned (.bool true) ∧ Below w.heap.size w w' := by
  have h3 : (300 : Int) < np := by omega
  go_enter Try.func6, Try.ntmps6
  go_wp2_with fail
  refine (lawake_any _).mono ?_
  rintro e w1 ⟨rfl, hb⟩
  have HB : Hid (Below w.heap.size w w1) := Lib.hid (Below.trans (by go_grown) (hb.mono (by simp)))
  clear hb
  go_wp2_with fail
  refine bodyPost_ret (v := .bool true) (by simp [results, Try.results6, go_sem]) rfl ⟨rfl, HB.out⟩

set_option maxRecDepth 100000 in
set_option maxHeartbeats 32000000 in
theorem par_many2 (W H M B : Int) (nb cb np cpp nq cpq : Nat) (ao ap aq : Option Addr) (w : World) (h0 : ¬ 300 < np) (h : 300 < nq) :
    Calls Try.prog 6 #[.agg #[.int .i64 W, .int .i64 H, .int .i64 M, .int .i64 B, .slice ao nb cb], .slice ap np cpp, .slice aq nq cpq] w fun e w' => e = .returned (.bool true) ∧ Below w.heap.size w w' := by
  have h2 : ¬ (300 : Int) < np := by omega
  have h3 : (300 : Int) < nq := by omega
  go_enter Try.func6, Try.ntmps6
  go_wp2_with fail
  refine (lawake_any _).mono ?_
  rintro e w1 ⟨rfl, hb⟩
  have HB : Hid (Below w.heap.size w w1) := Lib.hid (Below.trans (by go_grown) (hb.mono (by simp)))
  clear hb
  go_wp2_with fail
  refine bodyPost_ret (v := .bool true) (by simp [results, Try.results6, go_sem]) rfl ⟨rfl, HB.out⟩

set_option maxRecDepth 100000 in
set_option maxHeartbeats 32000000 in
theorem par_err (Wn Hn : Int) (M B : Int) (nb cb np cpp nq cpq : Nat) (ao ap aq : Option Addr) (XB YB XP YP XQ YQ : Nat → Int) (w : World) (h0 : np ≤ 300) (h1 : nq ≤ 300) (E : Int) (hE : rdE (vaG Wn Hn M B nb XB YB) 2 (erN (fun j => chE Wn Hn (blkN XB YB nb) (sl2 XP XQ j) (sl2 YP YQ j) (sl2 np nq j)) 2) = E) (hne : E ≠ 0)
    (hn : nb ≤ 9223372036854775807) (hc : XYs w ao nb XB YB) (hp : XYs w ap np XP YP) (hq : XYs w aq nq XQ YQ) (hrp : R2 XP YP np) (hrq : R2 XQ YQ nq) :
    Calls Try.prog 6 #[.agg #[.int .i64 Wn, .int .i64 Hn, .int .i64 M, .int .i64 B, .slice ao nb cb], .slice ap np cpp, .slice aq nq cpq] w fun e w' => e = .returned (.bool true) ∧ Below w.heap.size w w' := by
  have HC := Lib.hid hc
  have HP := Lib.hid hp
  have HQ := Lib.hid hq
  have HN2 : Hid (∀ j, j < 2 → sl2 np nq j ≤ 1000000 ∧ R2 (sl2 XP XQ j) (sl2 YP YQ j) (sl2 np nq j)) := Lib.hid (fun j hj => by
    have hj2 : j = 0 ∨ j = 1 := by omega
    rcases hj2 with rfl | rfl
    · exact ⟨by simp only [sl2]; omega, hrp⟩
    · exact ⟨by simp only [sl2]; omega, hrq⟩)
  clear hc hp hq hrp hrq
  have HE := Lib.hid hE
  clear hE
  have h2 : ¬ (300 : Int) < np := by omega
  have h3 : ¬ (300 : Int) < nq := by omega
  have heb : (E != 0) = true := bne_iff_ne.2 hne
  go_enter Try.func6, Try.ntmps6
  obtain ⟨W0, hW0⟩ : ∃ z, z = (w.alloc (.cells #[.int .i64 Wn, .int .i64 Hn, .int .i64 M, .int .i64 B, .slice ao nb cb] 24)).alloc (.cells #[.slice ap np cpp, .slice aq nq cpq] 22) := ⟨_, rfl⟩
  have hc0 : Below w.heap.size w W0 := by rw [hW0]; go_grown
  have HPS : Hid (PSl W0 (some ⟨w.heap.size + 1, 0, none⟩) 2 (sl2 ap aq) (sl2 np nq) (sl2 cpp cpq) (sl2 XP XQ) (sl2 YP YQ)) := Lib.hid (PSl.two (by rw [hW0]; have h := heap_alloc_new (w.alloc (.cells #[.int .i64 Wn, .int .i64 Hn, .int .i64 M, .int .i64 B, .slice ao nb cb] 24)) (.cells #[.slice ap np cpp, .slice aq nq cpq] 22); rwa [World.size_alloc] at h) (HP.out.keep hc0) (HQ.out.keep hc0))
  have HG0 : Hid (W0.heap[w.heap.size]? = some (.cells #[.int .i64 Wn, .int .i64 Hn, .int .i64 M, .int .i64 B, .slice ao nb cb] 24 (0, 0))) := Lib.hid (by rw [hW0]; exact (Below.heap_alloc _ _ _ (by simp)).trans (heap_alloc_new w _))
  have hz0 : w.heap.size + 1 < W0.heap.size := by rw [hW0]; simp
  have HXB := Lib.hid (HC.out.keep hc0)
  have HB0 := Lib.hid hc0
  have HW0 := Lib.hid hW0
  clear hc0 hW0
  go_wp2_with fail
  rw [← HW0.out]
  refine (pTogether_no Wn Hn M B nb cb ao XB YB 2 (some ⟨w.heap.size + 1, 0, none⟩) (sl2 ap aq) (sl2 np nq) (sl2 cpp cpq) (sl2 XP XQ) (sl2 YP YQ) W0 E HE.out hne hn HXB.out HPS.out HN2.out).mono ?_
  rintro e w1 ⟨rfl, hb⟩
  have HB1 : Hid (Below w.heap.size w w1) := Lib.hid (HB0.out.trans (hb.mono (by omega)))
  clear hb HB0 HPS HG0 hz0 HXB HW0
  go_wp2_with fail
  refine (lawake_any _).mono ?_
  rintro e wA ⟨rfl, hb⟩
  have HBA : Hid (Below w.heap.size w wA) := Lib.hid (HB1.out.trans (hb.mono HB1.out.size))
  clear hb HB1
  go_wp2_with fail
  refine bodyPost_ret (v := .bool true) (by simp [results, Try.results6, go_sem]) rfl ⟨rfl, HBA.out⟩

set_option maxRecDepth 100000 in
set_option maxHeartbeats 64000000 in
theorem par_ok (Wn Hn : Nat) (M B : Int) (nb cb n cpp m cpq : Nat) (ao ap aq : Option Addr) (XB YB XP YP XQ YQ : Nat → Int) (w : World) (h0 : n + 1 ≤ 300) (h1 : m + 1 ≤ 300) (hv : vaG Wn Hn M B nb XB YB = true) (e0 : chE Wn Hn (blkN XB YB nb) XP YP (n + 1) = 0) (e1 : chE Wn Hn (blkN XB YB nb) XQ YQ (m + 1) = 0)
    (hn : nb ≤ 9223372036854775807) (hc : XYs w ao nb XB YB) (hp : XYs w ap (n + 1) XP YP) (hq : XYs w aq (m + 1) XQ YQ) (hrp : R2 XP YP (n + 1)) (hrq : R2 XQ YQ (m + 1)) :
    Calls Try.prog 6 #[.agg #[.int .i64 Wn, .int .i64 Hn, .int .i64 M, .int .i64 B, .slice ao nb cb], .slice ap (n + 1) cpp, .slice aq (m + 1) cpq] w fun e w' => e = .returned (.bool true) ∧ Below w.heap.size w w' := by
  have HC := Lib.hid hc
  have HP := Lib.hid hp
  have HQ := Lib.hid hq
  have HN2 : Hid (∀ j, j < 2 → sl2 (n + 1) (m + 1) j ≤ 1000000 ∧ R2 (sl2 XP XQ j) (sl2 YP YQ j) (sl2 (n + 1) (m + 1) j)) := Lib.hid (fun j hj => by
    have hj2 : j = 0 ∨ j = 1 := by omega
    rcases hj2 with rfl | rfl
    · exact ⟨by simp only [sl2]; omega, hrp⟩
    · exact ⟨by simp only [sl2]; omega, hrq⟩)
  clear hc hp hq hrp hrq
  have HV := Lib.hid hv
  have HE : Hid (erN (fun j => chE Wn Hn (blkN XB YB nb) (sl2 XP XQ j) (sl2 YP YQ j) (sl2 (n + 1) (m + 1) j)) 2 = 0) := Lib.hid (by
    simp only [erN, sl2, if_true, e0]
    exact e1)
  have hch0 := chE_ok.1 e0
  have hch1 := chE_ok.1 e1
  have HON : Hid (∀ k, k < n + 1 → onB Wn Hn (XP k) (YP k) = true) := Lib.hid (fun k hk => by have h := (opB_iff.1 (opA_iff.1 hch0.2 k hk)).1; exact onB_iff.2 h)
  have HOM : Hid (∀ k, k < m + 1 → onB Wn Hn (XQ k) (YQ k) = true) := Lib.hid (fun k hk => by have h := (opB_iff.1 (opA_iff.1 hch1.2 k hk)).1; exact onB_iff.2 h)
  have HE0 := Lib.hid e0
  have HE1 := Lib.hid e1
  clear hv e0 e1 hch0 hch1
  have h2 : ¬ (300 : Int) < ((n + 1 : Nat) : Int) := by omega
  have h3 : ¬ (300 : Int) < ((m + 1 : Nat) : Int) := by omega
  go_enter Try.func6, Try.ntmps6
  obtain ⟨W0, hW0⟩ : ∃ z, z = (w.alloc (.cells #[.int .i64 Wn, .int .i64 Hn, .int .i64 M, .int .i64 B, .slice ao nb cb] 24)).alloc (.cells #[.slice ap (n + 1) cpp, .slice aq (m + 1) cpq] 22) := ⟨_, rfl⟩
  have hc0 : Below w.heap.size w W0 := by rw [hW0]; go_grown
  have HPS : Hid (PSl W0 (some ⟨w.heap.size + 1, 0, none⟩) 2 (sl2 ap aq) (sl2 (n + 1) (m + 1)) (sl2 cpp cpq) (sl2 XP XQ) (sl2 YP YQ)) := Lib.hid (PSl.two (by rw [hW0]; have h := heap_alloc_new (w.alloc (.cells #[.int .i64 Wn, .int .i64 Hn, .int .i64 M, .int .i64 B, .slice ao nb cb] 24)) (.cells #[.slice ap (n + 1) cpp, .slice aq (m + 1) cpq] 22); rwa [World.size_alloc] at h) (HP.out.keep hc0) (HQ.out.keep hc0))
  have HG0 : Hid (W0.heap[w.heap.size]? = some (.cells #[.int .i64 Wn, .int .i64 Hn, .int .i64 M, .int .i64 B, .slice ao nb cb] 24 (0, 0))) := Lib.hid (by rw [hW0]; exact (Below.heap_alloc _ _ _ (by simp)).trans (heap_alloc_new w _))
  have hz0 : w.heap.size + 1 < W0.heap.size := by rw [hW0]; simp
  have HXB := Lib.hid (HC.out.keep hc0)
  have HB0 := Lib.hid hc0
  have HW0 := Lib.hid hW0
  clear hc0 hW0
  go_wp2_with fail
  rw [← HW0.out]
  refine (pTogether_ok Wn Hn M B nb cb ao XB YB 2 (some ⟨w.heap.size + 1, 0, none⟩) (sl2 ap aq) (sl2 (n + 1) (m + 1)) (sl2 cpp cpq) (sl2 XP XQ) (sl2 YP YQ) W0 HV.out HE.out hn HXB.out HPS.out HN2.out).mono ?_
  rintro e w1 h
  rcases h with ⟨rfl, _, hb⟩ | ⟨al, cl, rfl, hall, hb⟩
  · have HB1 : Hid (Below w.heap.size w w1) := Lib.hid (HB0.out.trans (hb.mono (by omega)))
    clear hb HB0 HPS HG0 hz0 HXB HW0
    go_wp2_with fail
    refine (lawake_any _).mono ?_
    rintro e wA ⟨rfl, hb⟩
    have HBA : Hid (Below w.heap.size w wA) := Lib.hid (HB1.out.trans (hb.mono HB1.out.size))
    clear hb HB1
    go_wp2_with fail
    refine bodyPost_ret (v := .bool true) (by simp [results, Try.results6, go_sem]) rfl ⟨rfl, HBA.out⟩
  have HB1 : Hid (Below w.heap.size w w1) := Lib.hid (HB0.out.trans (hb.mono (by omega)))
  have KG1 : Hid (w1.heap[w.heap.size]? = some (.cells #[.int .i64 Wn, .int .i64 Hn, .int .i64 M, .int .i64 B, .slice ao nb cb] 24 (0, 0))) := Lib.hid ((hb.block _ (by omega)).trans HG0.out)
  have hz1 : w.heap.size < w1.heap.size := by have := hb.size; omega
  have HPAR : Hid (∀ P : Nat → Int, P 0 = riP Wn Hn (XP 0) (YP 0) → P 1 = riP Wn Hn (XP n) (YP n) → P 2 = riP Wn Hn (XQ 0) (YQ 0) → P 3 = riP Wn Hn (XQ m) (YQ m) → muO P = true → (((csL (sl2 XP XQ) (sl2 YP YQ) (sl2 (n + 1) (m + 1)) Wn (Hn * Wn)).length : Int).tmod 2 == 1) = muR P) := Lib.hid (fun P p0 p1 p2 p3 ho => par_end HE0.out HE1.out hall p0 p1 p2 p3 ho)
  have HAL := Lib.hid hall
  obtain ⟨bp, op, hpe, hcp⟩ := (HP.out.keep HB1.out) (by omega)
  obtain ⟨bq, oq, hqe, hcq⟩ := (HQ.out.keep HB1.out) (by omega)
  subst hpe hqe
  have k0 := hcp 0 (by omega)
  have k1 := hcp n (by omega)
  have k2 := hcq 0 (by omega)
  have k3 := hcq m (by omega)
  rw [Nat.zero_mul, Nat.add_zero] at k0 k2
  have on0 := HON.out 0 (by omega)
  have on1 := HON.out n (by omega)
  have on2 := HOM.out 0 (by omega)
  have on3 := HOM.out m (by omega)
  have hPAR := HPAR.out
  obtain ⟨L, hL⟩ : ∃ z, (csL (sl2 XP XQ) (sl2 YP YQ) (sl2 (n + 1) (m + 1)) Wn (Hn * Wn)).length = z := ⟨_, rfl⟩
  rw [hL] at hPAR ⊢
  have HL := Lib.hid hL
  obtain ⟨x0, hx0⟩ : ∃ z, XP 0 = z := ⟨_, rfl⟩
  obtain ⟨y0, hy0⟩ : ∃ z, YP 0 = z := ⟨_, rfl⟩
  obtain ⟨x1, hx1⟩ : ∃ z, XP n = z := ⟨_, rfl⟩
  obtain ⟨y1, hy1⟩ : ∃ z, YP n = z := ⟨_, rfl⟩
  obtain ⟨u0, hu0⟩ : ∃ z, XQ 0 = z := ⟨_, rfl⟩
  obtain ⟨v0, hv0⟩ : ∃ z, YQ 0 = z := ⟨_, rfl⟩
  obtain ⟨u1, hu1⟩ : ∃ z, XQ m = z := ⟨_, rfl⟩
  obtain ⟨v1, hv1⟩ : ∃ z, YQ m = z := ⟨_, rfl⟩
  rw [hx0, hy0] at k0 on0
  rw [hx1, hy1] at k1 on1
  rw [hu0, hv0] at k2 on2
  rw [hu1, hv1] at k3 on3
  rw [hx0, hy0, hx1, hy1, hu0, hv0, hu1, hv1] at hPAR
  obtain ⟨P, hP⟩ : ∃ P : Nat → Int, P = fun k => riP Wn Hn (eX x0 x1 u0 u1 k) (eX y0 y1 v0 v1 k) := ⟨_, rfl⟩
  have hPR := hPAR P (by rw [hP]; rfl) (by rw [hP]; rfl) (by rw [hP]; rfl) (by rw [hP]; rfl)
  have hon : allOn Wn Hn (eX x0 x1 u0 u1) (eX y0 y1 v0 v1) 4 = true := by
    simp only [allOn, eX, on0, on1, on2, on3, Bool.and_self]
  obtain ⟨ok, hok⟩ : ∃ z, muO P = z := ⟨_, rfl⟩
  obtain ⟨mb, hmb⟩ : ∃ z, muV true ok (muR P) = z := ⟨_, rfl⟩
  obtain ⟨me, hme⟩ : ∃ z, muE true ok = z := ⟨_, rfl⟩
  have HM : Hid (∀ w', Below w.heap.size w w' → Calls Try.prog 14 #[.agg #[.int .i64 Wn, .int .i64 Hn, .int .i64 M, .int .i64 B, .slice ao nb cb], .agg #[.int .i64 x0, .int .i64 y0], .agg #[.int .i64 x1, .int .i64 y1], .agg #[.int .i64 u0, .int .i64 v0], .agg #[.int .i64 u1, .int .i64 v1]] w' fun e w'' => e = .returned (.tuple #[.bool mb, .int .i64 me]) ∧ Below w'.heap.size w' w'') := Lib.hid (fun w' hb' => by
    have h := pMust_ok Wn Hn M B nb cb ao XB YB (eX x0 x1 u0 u1) (eX y0 y1 v0 v1) P w' (HC.out.keep hb') HV.out (fun k => by rw [hP]) true ok hon hok
    rw [hmb, hme] at h
    exact h)
  have HOK := Lib.hid (And.intro hok (And.intro hmb hme))
  have HPR := Lib.hid hPR
  have G0 : Hid (∀ w' : World, Below w1.heap.size w1 w' → w'.heap[w.heap.size]? = some (.cells #[.int .i64 Wn, .int .i64 Hn, .int .i64 M, .int .i64 B, .slice ao nb cb] 24 (0, 0)) ∧ XyAt w' bp op x0 y0 ∧ XyAt w' bp (op + n * 2) x1 y1 ∧ XyAt w' bq oq u0 v0 ∧ XyAt w' bq (oq + m * 2) u1 v1) := Lib.hid (fun w' hb => ⟨(hb.block _ hz1).trans KG1.out, k0.keep hb, k1.keep hb, k2.keep hb, k3.keep hb⟩)
  have hlt1 : (n : Int) < (n : Int) + 1 := by omega
  have hlt3 : (m : Int) < (m : Int) + 1 := by omega
  have hwl : IntKind.i64.wrap (n : Int) = n := by rw [IntKind.wrap_i64]; omega
  have hwm : IntKind.i64.wrap (m : Int) = m := by rw [IntKind.wrap_i64]; omega
  have hlt2 : (0 : Int) < (n : Int) + 1 := by omega
  have hlt4 : (0 : Int) < (m : Int) + 1 := by omega
  have hlt0 : (0 : Int) ≤ (n : Int) := by omega
  have hlt5 : (0 : Int) ≤ (m : Int) := by omega
  have hn0 : ((n : Int) + 1 == 0) = false := beq_eq_false_iff_ne.2 (by omega)
  have hm0 : ((m : Int) + 1 == 0) = false := beq_eq_false_iff_ne.2 (by omega)
  have HQ0 : Below w1.heap.size w1 w1.drew := (Below.refl _ _).drew
  clear hcp hcq k0 k1 k2 k3 on0 on1 on2 on3 hPAR hL hx0 hy0 hx1 hy1 hu0 hv0 hu1 hv1 hP hPR hon hok hmb hme hall hb HB0 HPS HG0 hz0 HXB HW0
  go_upto_region 6 with fail
  refine wp_region_held_drew (S := fun w' => w'.heap[w.heap.size]? = some (.cells #[.int .i64 Wn, .int .i64 Hn, .int .i64 M, .int .i64 B, .slice ao nb cb] 24 (0, 0)) ∧ XyAt w' bp op x0 y0 ∧ XyAt w' bp (op + n * 2) x1 y1 ∧ XyAt w' bq oq u0 v0 ∧ XyAt w' bq (oq + m * 2) u1 v1) (by kernel_rfl) (G0.out _ HQ0) (fun hHeld => ?_)
  refine wpAnyH_take (i := 0) (oi := _) (v := _) rfl (by kernel_rfl) (by kernel_rfl) (by kernel_rfl) (fun _ _ _ h => h) (yieldsIf_load_mid (by rfl) 24 _ rfl (w.heap.size) 0 rfl ([.int .i64 Wn, .int .i64 Hn, .int .i64 M, .int .i64 B, .slice ao nb cb]) _ (fun w' hh => range_row hh.1 0 [.int .i64 Wn, .int .i64 Hn, .int .i64 M, .int .i64 B, .slice ao nb cb] (fun j hj => by simp only [Nat.zero_add, List.getElem?_toArray])) Try.underlying24 rfl (by kernel_rfl)) (by assumption) ?_
  try change wpAnyH _ _ _ _ _ _ _ (Act.put _ (some 53) _) _
  try simp only [act_all]
  refine wpAnyH_take (i := 1) (oi := _) (v := ?_) rfl (by kernel_rfl) (by kernel_rfl) (by kernel_rfl) (fun _ _ _ h => h) (Or.inl ⟨by rfl, ?_⟩) (by assumption) ?_
  rotate_left
  · intro w hSw; obtain ⟨s0, ⟨s1, s2⟩, ⟨s3, s4⟩, ⟨s5, s6⟩, s7, s8⟩ := hSw; go_simp; (try with_reducible rfl)
  try change wpAnyH _ _ _ _ _ _ _ (Act.put _ (some 54) _) _
  try simp only [act_all]
  refine wpAnyH_take (i := 2) (oi := _) (v := ?_) rfl (by kernel_rfl) (by kernel_rfl) (by kernel_rfl) (fun _ _ _ h => h) (Or.inl ⟨by rfl, ?_⟩) (by assumption) ?_
  rotate_left
  · intro w hSw; obtain ⟨s0, ⟨s1, s2⟩, ⟨s3, s4⟩, ⟨s5, s6⟩, s7, s8⟩ := hSw; go_simp; (try with_reducible rfl)
  try change wpAnyH _ _ _ _ _ _ _ (Act.put _ (some 55) _) _
  try simp only [act_all]
  refine wpAnyH_take (i := 3) (oi := _) (v := _) rfl (by kernel_rfl) (by kernel_rfl) (by kernel_rfl) (fun _ _ _ h => h) (yieldsIf_load_mid (by rfl) 26 _ rfl bp _ rfl ([.int .i64 x0, .int .i64 y0]) _ (fun w' hh => by simpa using range_xy hh.2.1) Try.underlying26 rfl (by kernel_rfl)) (by assumption) ?_
  try change wpAnyH _ _ _ _ _ _ _ (Act.put _ (some 56) _) _
  try simp only [act_all]
  refine wpAnyH_take (i := 4) (oi := _) (v := ?_) rfl (by kernel_rfl) (by kernel_rfl) (by kernel_rfl) (fun _ _ _ h => h) (Or.inl ⟨by rfl, ?_⟩) (by assumption) ?_
  rotate_left
  · intro w hSw; obtain ⟨s0, ⟨s1, s2⟩, ⟨s3, s4⟩, ⟨s5, s6⟩, s7, s8⟩ := hSw; go_simp; (try with_reducible rfl)
  try change wpAnyH _ _ _ _ _ _ _ (Act.put _ (some 57) _) _
  try simp only [act_all]
  refine wpAnyH_take (i := 5) (oi := _) (v := ?_) rfl (by kernel_rfl) (by kernel_rfl) (by kernel_rfl) (fun _ _ _ h => h) (Or.inl ⟨by rfl, ?_⟩) (by assumption) ?_
  rotate_left
  · intro w hSw; obtain ⟨s0, ⟨s1, s2⟩, ⟨s3, s4⟩, ⟨s5, s6⟩, s7, s8⟩ := hSw; go_simp; (try with_reducible rfl)
  try change wpAnyH _ _ _ _ _ _ _ (Act.put _ (some 58) _) _
  try simp only [act_all]
  refine wpAnyH_take (i := 6) (oi := _) (v := ?_) rfl (by kernel_rfl) (by kernel_rfl) (by kernel_rfl) (fun _ _ _ h => h) (Or.inl ⟨by rfl, ?_⟩) (by assumption) ?_
  rotate_left
  · intro w hSw; obtain ⟨s0, ⟨s1, s2⟩, ⟨s3, s4⟩, ⟨s5, s6⟩, s7, s8⟩ := hSw; go_simp; (try with_reducible rfl)
  try change wpAnyH _ _ _ _ _ _ _ (Act.put _ (some 59) _) _
  try simp only [act_all]
  refine wpAnyH_take (i := 7) (oi := _) (v := ?_) rfl (by kernel_rfl) (by kernel_rfl) (by kernel_rfl) (fun _ _ _ h => h) (Or.inl ⟨by rfl, ?_⟩) (by assumption) ?_
  rotate_left
  · intro w hSw; obtain ⟨s0, ⟨s1, s2⟩, ⟨s3, s4⟩, ⟨s5, s6⟩, s7, s8⟩ := hSw; go_simp; (try with_reducible rfl)
  try change wpAnyH _ _ _ _ _ _ _ (Act.put _ (some 60) _) _
  try simp only [act_all]
  refine wpAnyH_take (i := 8) (oi := _) (v := ?_) rfl (by kernel_rfl) (by kernel_rfl) (by kernel_rfl) (fun _ _ _ h => h) (Or.inl ⟨by rfl, ?_⟩) (by assumption) ?_
  rotate_left
  · intro w hSw; obtain ⟨s0, ⟨s1, s2⟩, ⟨s3, s4⟩, ⟨s5, s6⟩, s7, s8⟩ := hSw; go_simp; (try with_reducible rfl)
  try change wpAnyH _ _ _ _ _ _ _ (Act.put _ (some 61) _) _
  try simp only [act_all]
  refine wpAnyH_take (i := 9) (oi := _) (v := _) rfl (by kernel_rfl) (by kernel_rfl) (by kernel_rfl) (fun _ _ _ h => h) (yieldsIf_load_mid (by rfl) 26 _ rfl bp _ rfl ([.int .i64 x1, .int .i64 y1]) _ (fun w' hh => by simpa using range_xy hh.2.2.1) Try.underlying26 rfl (by kernel_rfl)) (by assumption) ?_
  try change wpAnyH _ _ _ _ _ _ _ (Act.put _ (some 62) _) _
  try simp only [act_all]
  refine wpAnyH_take (i := 10) (oi := _) (v := ?_) rfl (by kernel_rfl) (by kernel_rfl) (by kernel_rfl) (fun _ _ _ h => h) (Or.inl ⟨by rfl, ?_⟩) (by assumption) ?_
  rotate_left
  · intro w hSw; obtain ⟨s0, ⟨s1, s2⟩, ⟨s3, s4⟩, ⟨s5, s6⟩, s7, s8⟩ := hSw; go_simp; (try with_reducible rfl)
  try change wpAnyH _ _ _ _ _ _ _ (Act.put _ (some 63) _) _
  try simp only [act_all]
  refine wpAnyH_take (i := 11) (oi := _) (v := ?_) rfl (by kernel_rfl) (by kernel_rfl) (by kernel_rfl) (fun _ _ _ h => h) (Or.inl ⟨by rfl, ?_⟩) (by assumption) ?_
  rotate_left
  · intro w hSw; obtain ⟨s0, ⟨s1, s2⟩, ⟨s3, s4⟩, ⟨s5, s6⟩, s7, s8⟩ := hSw; go_simp; (try with_reducible rfl)
  try change wpAnyH _ _ _ _ _ _ _ (Act.put _ (some 64) _) _
  try simp only [act_all]
  refine wpAnyH_take (i := 12) (oi := _) (v := _) rfl (by kernel_rfl) (by kernel_rfl) (by kernel_rfl) (fun _ _ _ h => h) (yieldsIf_load_mid (by rfl) 26 _ rfl bq _ rfl ([.int .i64 u0, .int .i64 v0]) _ (fun w' hh => by simpa using range_xy hh.2.2.2.1) Try.underlying26 rfl (by kernel_rfl)) (by assumption) ?_
  try change wpAnyH _ _ _ _ _ _ _ (Act.put _ (some 65) _) _
  try simp only [act_all]
  refine wpAnyH_take (i := 13) (oi := _) (v := ?_) rfl (by kernel_rfl) (by kernel_rfl) (by kernel_rfl) (fun _ _ _ h => h) (Or.inl ⟨by rfl, ?_⟩) (by assumption) ?_
  rotate_left
  · intro w hSw; obtain ⟨s0, ⟨s1, s2⟩, ⟨s3, s4⟩, ⟨s5, s6⟩, s7, s8⟩ := hSw; go_simp; (try with_reducible rfl)
  try change wpAnyH _ _ _ _ _ _ _ (Act.put _ (some 66) _) _
  try simp only [act_all]
  refine wpAnyH_take (i := 14) (oi := _) (v := ?_) rfl (by kernel_rfl) (by kernel_rfl) (by kernel_rfl) (fun _ _ _ h => h) (Or.inl ⟨by rfl, ?_⟩) (by assumption) ?_
  rotate_left
  · intro w hSw; obtain ⟨s0, ⟨s1, s2⟩, ⟨s3, s4⟩, ⟨s5, s6⟩, s7, s8⟩ := hSw; go_simp; (try with_reducible rfl)
  try change wpAnyH _ _ _ _ _ _ _ (Act.put _ (some 67) _) _
  try simp only [act_all]
  refine wpAnyH_take (i := 15) (oi := _) (v := ?_) rfl (by kernel_rfl) (by kernel_rfl) (by kernel_rfl) (fun _ _ _ h => h) (Or.inl ⟨by rfl, ?_⟩) (by assumption) ?_
  rotate_left
  · intro w hSw; obtain ⟨s0, ⟨s1, s2⟩, ⟨s3, s4⟩, ⟨s5, s6⟩, s7, s8⟩ := hSw; go_simp; (try with_reducible rfl)
  try change wpAnyH _ _ _ _ _ _ _ (Act.put _ (some 68) _) _
  try simp only [act_all]
  refine wpAnyH_take (i := 16) (oi := _) (v := ?_) rfl (by kernel_rfl) (by kernel_rfl) (by kernel_rfl) (fun _ _ _ h => h) (Or.inl ⟨by rfl, ?_⟩) (by assumption) ?_
  rotate_left
  · intro w hSw; obtain ⟨s0, ⟨s1, s2⟩, ⟨s3, s4⟩, ⟨s5, s6⟩, s7, s8⟩ := hSw; go_simp; (try with_reducible rfl)
  try change wpAnyH _ _ _ _ _ _ _ (Act.put _ (some 69) _) _
  try simp only [act_all]
  refine wpAnyH_take (i := 17) (oi := _) (v := ?_) rfl (by kernel_rfl) (by kernel_rfl) (by kernel_rfl) (fun _ _ _ h => h) (Or.inl ⟨by rfl, ?_⟩) (by assumption) ?_
  rotate_left
  · intro w hSw; obtain ⟨s0, ⟨s1, s2⟩, ⟨s3, s4⟩, ⟨s5, s6⟩, s7, s8⟩ := hSw; go_simp; (try with_reducible rfl)
  try change wpAnyH _ _ _ _ _ _ _ (Act.put _ (some 70) _) _
  try simp only [act_all]
  refine wpAnyH_take (i := 18) (oi := _) (v := _) rfl (by kernel_rfl) (by kernel_rfl) (by kernel_rfl) (fun _ _ _ h => h) (yieldsIf_load_mid (by rfl) 26 _ rfl bq _ rfl ([.int .i64 u1, .int .i64 v1]) _ (fun w' hh => by simpa using range_xy hh.2.2.2.2) Try.underlying26 rfl (by kernel_rfl)) (by assumption) ?_
  try change wpAnyH _ _ _ _ _ _ _ (Act.put _ (some 71) _) _
  try simp only [act_all]
  refine wpAnyH_ready (rs := [19]) (by kernel_rfl) (by simp) ?_
  refine AllReadyH.cons (o := _) rfl (fun K hK => ?_) AllReadyH.nil
  go_simp
  refine (HM.out _ (HB1.out.trans (HQ0.mono (Nat.le_of_lt hz1)))).mono ?_
  rintro e_ t1 ⟨rfl, hb⟩
  have HQ1 : Below w1.heap.size w1 t1 := HQ0.trans (hb.mono HQ0.size)
  clear hb hHeld
  refine hK.out _ _ (G0.out _ HQ1) (fun hHeld => ?_)
  clear hK K
  try simp only [act_all]
  refine wpAnyH_take (i := 20) (oi := _) (v := ?_) rfl (by kernel_rfl) (by kernel_rfl) (by kernel_rfl) (fun _ _ _ h => h) (Or.inl ⟨by rfl, ?_⟩) (by assumption) ?_
  rotate_left
  · intro w hSw; obtain ⟨s0, ⟨s1, s2⟩, ⟨s3, s4⟩, ⟨s5, s6⟩, s7, s8⟩ := hSw; go_simp; (try with_reducible rfl)
  try change wpAnyH _ _ _ _ _ _ _ (Act.put _ (some 52) _) _
  try simp only [act_all]
  refine wpAnyH_take (i := 21) (oi := _) (v := ?_) rfl (by kernel_rfl) (by kernel_rfl) (by kernel_rfl) (fun _ _ _ h => h) (Or.inl ⟨by rfl, ?_⟩) (by assumption) ?_
  rotate_left
  · intro w hSw; obtain ⟨s0, ⟨s1, s2⟩, ⟨s3, s4⟩, ⟨s5, s6⟩, s7, s8⟩ := hSw; go_simp; (try with_reducible rfl)
  try change wpAnyH _ _ _ _ _ _ _ (Act.put _ (some 73) _) _
  try simp only [act_all]
  refine wpAnyH_take (i := 22) (oi := _) (v := ?_) rfl (by kernel_rfl) (by kernel_rfl) (by kernel_rfl) (fun _ _ _ h => h) (Or.inl ⟨by rfl, ?_⟩) (by assumption) ?_
  rotate_left
  · intro w hSw; obtain ⟨s0, ⟨s1, s2⟩, ⟨s3, s4⟩, ⟨s5, s6⟩, s7, s8⟩ := hSw; go_simp; (try with_reducible rfl)
  try change wpAnyH _ _ _ _ _ _ _ (Act.put _ (some 74) _) _
  try simp only [act_all]
  refine wpAnyH_take (i := 23) (oi := _) (v := ?_) rfl (by kernel_rfl) (by kernel_rfl) (by kernel_rfl) (fun _ _ _ h => h) (Or.inl ⟨by rfl, ?_⟩) (by assumption) ?_
  rotate_left
  · intro w hSw; obtain ⟨s0, ⟨s1, s2⟩, ⟨s3, s4⟩, ⟨s5, s6⟩, s7, s8⟩ := hSw; go_simp; (try with_reducible rfl)
  try change wpAnyH _ _ _ _ _ _ _ (Act.put _ (some 9) _) _
  try simp only [act_all]
  refine wpAnyH_take (i := 24) (oi := _) (v := ?_) rfl (by kernel_rfl) (by kernel_rfl) (by kernel_rfl) (fun _ _ _ h => h) (Or.inl ⟨by rfl, ?_⟩) (by assumption) ?_
  rotate_left
  · intro w hSw; obtain ⟨s0, ⟨s1, s2⟩, ⟨s3, s4⟩, ⟨s5, s6⟩, s7, s8⟩ := hSw; go_simp; (try with_reducible rfl)
  try change wpAnyH _ _ _ _ _ _ _ (Act.put _ (some 10) _) _
  try simp only [act_all]
  refine wpAnyH_done (by kernel_rfl) ?_ _
  clear hHeld
  have KG2 : Hid (t1.heap[w.heap.size]? = some (.cells #[.int .i64 Wn, .int .i64 Hn, .int .i64 M, .int .i64 B, .slice ao nb cb] 24 (0, 0))) := Lib.hid ((HQ1.block _ hz1).trans KG1.out)
  have HB2 : Hid (Below w.heap.size w t1) := Lib.hid (HB1.out.trans (HQ1.mono (Nat.le_of_lt hz1)))
  have hz2 : w.heap.size < t1.heap.size := by have := HQ1.size; omega
  clear HQ0 HQ1 HB1 KG1 G0 HM hz1
  cases ok with
  | false =>
    obtain ⟨_, hmb, hme⟩ := HOK.out
    have hme' : me = 2 := hme.symm
    have hmb' : mb = false := hmb.symm
    subst hme' hmb'
    clear hmb hme
    go_wp2_with fail
    refine (lawake_any _).mono ?_
    rintro e wA ⟨rfl, hb⟩
    have HBA : Hid (Below w.heap.size w wA) := Lib.hid (HB2.out.trans (hb.mono HB2.out.size))
    clear hb HB2
    go_wp2_with fail
    refine bodyPost_ret (v := .bool true) (by simp [results, Try.results6, go_sem]) rfl ⟨rfl, HBA.out⟩
  | true =>
  obtain ⟨hok, hmb, hme⟩ := HOK.out
  have hme' : me = 0 := hme.symm
  subst hme'
  have hpb : ((L : Int).tmod 2 == 1) = mb := (HPR.out hok).trans hmb
  have HPB := Lib.hid hpb
  clear hmb hme hok hpb HPR HOK
  obtain ⟨W2, hW2⟩ : ∃ z, z = t1.alloc (.cells #[.slice (some ⟨bp, op, none⟩) (n + 1) cpp, .slice (some ⟨bq, oq, none⟩) (m + 1) cpq] 22) := ⟨_, rfl⟩
  have hc2 : Below t1.heap.size t1 W2 := by rw [hW2]; exact bal (Below.refl _ _) _
  have HB3 : Hid (Below w.heap.size w W2) := Lib.hid (HB2.out.trans (hc2.mono (by omega)))
  have HPS2 : Hid (PSl W2 (some ⟨t1.heap.size, 0, none⟩) 2 (sl2 (some ⟨bp, op, none⟩) (some ⟨bq, oq, none⟩)) (sl2 (n + 1) (m + 1)) (sl2 cpp cpq) (sl2 XP XQ) (sl2 YP YQ)) := Lib.hid (PSl.two (by rw [hW2]; exact heap_alloc_new t1 _) (HP.out.keep HB3.out) (HQ.out.keep HB3.out))
  have hz3 : w.heap.size ≤ W2.heap.size := HB3.out.size
  have HW2 := Lib.hid hW2
  obtain ⟨g0, g1, g2, g3, g4⟩ : t1.cell? ⟨w.heap.size, 0, none⟩ = some (.int .i64 Wn) ∧ t1.cell? ⟨w.heap.size, 1, none⟩ = some (.int .i64 Hn) ∧ t1.cell? ⟨w.heap.size, 2, none⟩ = some (.int .i64 M) ∧ t1.cell? ⟨w.heap.size, 3, none⟩ = some (.int .i64 B) ∧ t1.cell? ⟨w.heap.size, 4, none⟩ = some (.slice ao nb cb) := ⟨cell_of_blk KG2.out rfl, cell_of_blk KG2.out rfl, cell_of_blk KG2.out rfl, cell_of_blk KG2.out rfl, cell_of_blk KG2.out rfl⟩
  clear hc2 hW2 HB2
  go_wp2_with fail
  rw [← HW2.out]
  refine (pCrossed_ok Wn Hn M B nb cb ao XB YB 2 (some ⟨t1.heap.size, 0, none⟩) (sl2 (some ⟨bp, op, none⟩) (some ⟨bq, oq, none⟩)) (sl2 (n + 1) (m + 1)) (sl2 cpp cpq) (sl2 XP XQ) (sl2 YP YQ) W2 HV.out HE.out hn (HC.out.keep HB3.out) HPS2.out HN2.out).mono ?_
  rw [HL.out]
  rintro e w4 h
  rcases h with ⟨rfl, ⟨j, hj, b1, b2⟩, hb⟩ | ⟨al2, cl2, rfl, hcr, _, hb⟩
  · exfalso
    rw [HAL.out j hj b1] at b2
    cases b2
  have HB4 : Hid (Below w.heap.size w w4) := Lib.hid (HB3.out.trans (hb.mono hz3))
  have HCW := Lib.hid hcr
  clear hb hcr HPS2 HW2 HB3 hz3 g0 g1 g2 g3 g4 KG2 hz2 HAL HL
  by_cases hL0 : L = 0
  · subst hL0
    have hmb0 : mb = false := by rw [← HPB.out]; rfl
    subst hmb0
    rw [show cnT 0 4 = 0 from rfl]
    clear HPB HCW
    go_wp2_with fail
    refine (lawake_any _).mono ?_
    rintro e wA ⟨rfl, hb⟩
    have HBA : Hid (Below w.heap.size w wA) := Lib.hid (HB4.out.trans (hb.mono HB4.out.size))
    clear hb HB4
    go_wp2_with fail
    refine bodyPost_ret (v := .bool true) (by simp [results, Try.results6, go_sem]) rfl ⟨rfl, HBA.out⟩
  have hcn : cnT L 4 = 1 := by unfold cnT; rw [if_pos ⟨by omega, by omega⟩]
  obtain ⟨g, hge, c0, c1, c2⟩ := HCW.out (by omega)
  rw [hcn]
  subst hge
  have hL1 : (0 : Int) < L := by omega
  have hpb := HPB.out
  have hsm : ∀ w, (Op.equalIn 10000 48 (.agg #[.int .i64 0, .int .i64 1, .int .i64 L]) (.agg #[.int .i64 0, .int .i64 1, .int .i64 L])).run Try.prog w = .ok true w := fun w => by
    have h := run_equalIn_arr3 w 9998 0 1 L 0 1 L Try.underlying48 Try.underlying3 (fun w => by kernel_rfl)
    simpa using h
  clear hcn HPB HCW
  go_wp2_with fail
  refine (lawake_any _).mono ?_
  rintro e wA ⟨rfl, hb⟩
  have HBA : Hid (Below w.heap.size w wA) := Lib.hid (HB4.out.trans (hb.mono HB4.out.size))
  clear hb HB4
  go_wp2_with fail
  refine bodyPost_ret (v := .bool true) (by simp [results, Try.results6, go_sem]) rfl ⟨rfl, HBA.out⟩
theorem LayoutParity_any (W H M B : Int) (nb cb np cpp nq cpq : Nat) (ao ap aq : Option Addr) (XB YB XP YP XQ YQ : Nat → Int) (w : World) (hn : nb ≤ 9223372036854775807) (hc : XYs w ao nb XB YB) (hp : XYs w ap np XP YP) (hq : XYs w aq nq XQ YQ) (hrp : R2 XP YP np) (hrq : R2 XQ YQ nq) :
    Calls Try.prog 6 #[.agg #[.int .i64 W, .int .i64 H, .int .i64 M, .int .i64 B, .slice ao nb cb], .slice ap np cpp, .slice aq nq cpq] w fun e w' => e = .returned (.bool true) ∧ Below w.heap.size w w' := by
  by_cases h0 : 300 < np
  · exact par_many1 W H M B nb cb np cpp nq cpq ao ap aq w h0
  by_cases h1 : 300 < nq
  · exact par_many2 W H M B nb cb np cpp nq cpq ao ap aq w h0 h1
  obtain ⟨E, hE⟩ : ∃ z, rdE (vaG W H M B nb XB YB) 2 (erN (fun j => chE W H (blkN XB YB nb) (sl2 XP XQ j) (sl2 YP YQ j) (sl2 np nq j)) 2) = z := ⟨_, rfl⟩
  by_cases hne : E = 0
  case neg => exact par_err W H M B nb cb np cpp nq cpq ao ap aq XB YB XP YP XQ YQ w (by omega) (by omega) E hE hne hn hc hp hq hrp hrq
  subst hne
  unfold rdE at hE
  by_cases hv : vaG W H M B nb XB YB = true
  case neg => rw [if_neg hv] at hE; exact absurd hE (by decide)
  rw [if_pos hv, if_pos (by omega)] at hE
  have e0 : chE W H (blkN XB YB nb) XP YP np = 0 := erN_get (k := 0) hE (by omega)
  have e1 : chE W H (blkN XB YB nb) XQ YQ nq = 0 := erN_get (k := 1) hE (by omega)
  have hp1 := (paB_iff.1 (chE_ok.1 e0).1).1.1
  have hq1 := (paB_iff.1 (chE_ok.1 e1).1).1.1
  obtain ⟨hnum, _⟩ := vaG_num hv
  obtain ⟨Wn, rfl⟩ : ∃ k : Nat, W = k := ⟨W.toNat, by omega⟩
  obtain ⟨Hn, rfl⟩ : ∃ k : Nat, H = k := ⟨H.toNat, by omega⟩
  obtain ⟨n, rfl⟩ : ∃ k, np = k + 1 := ⟨np - 1, by omega⟩
  obtain ⟨m, rfl⟩ : ∃ k, nq = k + 1 := ⟨nq - 1, by omega⟩
  exact par_ok Wn Hn M B nb cb n cpp m cpq ao ap aq XB YB XP YP XQ YQ w (by omega) (by omega) hv e0 e1 hn hc hp hq hrp hrq
end Go.Proofs.Ytkkcnhhfdicppaa
