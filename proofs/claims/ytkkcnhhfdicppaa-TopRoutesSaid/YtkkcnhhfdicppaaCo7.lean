import Derived.Test.YtkkcnhhfdicppaaXt7
namespace Lay
theorem bd_none (B k : Int) : bd B k (-1) = 0 := by unfold bd; rw [if_neg (fun h => h.2.1 rfl)]
/-- What holds of the queue and the done ones: the least costs so far, and how great they may be. -/
structure Dj (op : Int → Int → Bool) (M B p q : Int) (T : List (Int × Int × Int)) (F : Int → Int → Int → Option Int) (f : Nat → V) (n : Nat) : Prop where
  inv : Inv op M B p q F f n
  low : ∀ i, i < n → (f i).c ≤ 2000 * ((cnt7 T F : Int) + 1)
  few : n ≤ 4 * (cnt7 T F + 1)
  dlow : ∀ x y d v, F x y d = some v → v ≤ 2000 * ((cnt7 T F : Int) + 1)
structure Dm (op : Int → Int → Bool) (M B p q : Int) (T : List (Int × Int × Int)) (F : Int → Int → Int → Option Int) (a b e v : Int) (n0 : Nat) (k : Int) (f : Nat → V) (n : Nat) : Prop where
  mid : Mid op M B p q F f n a b e v k
  low : ∀ i, i < n → (f i).c ≤ 2000 * ((cnt7 T F : Int) + 1)
variable {op : Int → Int → Bool} {M B p q : Int} {T : List (Int × Int × Int)} {F : Int → Int → Int → Option Int}
theorem Dm.next {a b e v k : Int} {n0 : Nat} {f g : Nat → V} {n m : Nat} (h : Dm op M B p q T F a b e v n0 k f n) (hk0 : 0 ≤ k) (hk4 : k < 4) (hx : Ext1 op M B a b e v k f n g m) (hB : 0 ≤ B ∧ B ≤ 1000) (hM : 0 ≤ M ∧ M ≤ 1000) (hv : v + 2000 ≤ 2000 * ((cnt7 T F : Int) + 1)) : Dm op M B p q T F a b e v n0 (k + 1) g m := by
  refine ⟨h.mid.next hk0 hk4 hx.1 hx.2.1 hx.2.2, fun j hj => ?_⟩
  rcases hx.2.1 j hj with ⟨i, hi, he⟩ | ⟨_, he⟩
  · rw [← he]; exact h.low i hi
  · rw [he]
    have := bd_le (B := B) (i := k) (o := e) hB.1
    simp only
    omega
structure Db (op : Int → Int → Bool) (M B p q : Int) (k : Int) (f : Nat → V) (n : Nat) : Prop where
  beg : Beg op M B p q f n k
  low : ∀ i, i < n → (f i).c ≤ 2000
theorem Db.next {k : Int} {f g : Nat → V} {n m : Nat} (h : Db op M B p q k f n) (hk0 : 0 ≤ k) (hk4 : k < 4) (hx : Ext1 op M B p q (-1) 0 k f n g m) (hM : 0 ≤ M ∧ M ≤ 1000) : Db op M B p q (k + 1) g m := by
  have e0 : (0 : Int) + M + bd B k (-1) = M := by rw [bd_none]; omega
  unfold Ext1 at hx
  rw [e0] at hx
  refine ⟨h.beg.next hk0 hk4 hx.1 hx.2.1 hx.2.2, fun j hj => ?_⟩
  rcases hx.2.1 j hj with ⟨i, hi, he⟩ | ⟨_, he⟩
  · rw [← he]; exact h.low i hi
  · rw [he]
    simp only
    omega
theorem Dj.skip {f g : Nat → V} {n : Nat} (h : Dj op M B p q T F f (n + 1)) (hF : F (f 0).x (f 0).y (f 0).d ≠ none) (h1 : ∀ i, i < n + 1 → f i = f 0 ∨ ∃ j, j < n ∧ g j = f i) (h2 : ∀ j, j < n → ∃ i, i < n + 1 ∧ f i = g j) : Dj op M B p q T F g n := by
  refine ⟨h.inv.skip (f 0) ⟨0, by omega, rfl⟩ hF h1 h2, fun j hj => ?_, by have := h.few; omega, h.dlow⟩
  obtain ⟨i, hi, he⟩ := h2 j hj
  rw [← he]; exact h.low i hi
theorem Dj.take {f g : Nat → V} {n : Nat} (h : Dj op M B p q T F f (n + 1)) (hM : 0 ≤ M) (hB : 0 ≤ B) (hF : F (f 0).x (f 0).y (f 0).d = none) (hmem : ((f 0).x, (f 0).y, (f 0).d) ∈ T) (hmin : ∀ i, i < n + 1 → (f 0).c ≤ (f i).c)
    (h1 : ∀ i, i < n + 1 → f i = f 0 ∨ ∃ j, j < n ∧ g j = f i) (h2 : ∀ j, j < n → ∃ i, i < n + 1 ∧ f i = g j) : Dm op M B p q T (set7 F (f 0).x (f 0).y (f 0).d (f 0).c) (f 0).x (f 0).y (f 0).d (f 0).c 0 0 g n := by
  have hc := cnt7_set (v := (f 0).c) hF hmem
  refine ⟨h.inv.take hM hB (f 0) ⟨0, by omega, rfl⟩ hF hmin h1 h2, fun j hj => ?_⟩
  obtain ⟨i, hi, he⟩ := h2 j hj
  have := h.low i hi
  rw [← he]; omega
theorem Dm.all {a b e v : Int} {n0 n1 : Nat} {f : Nat → V} {n : Nat} {F0 : Int → Int → Int → Option Int} (h : Dm op M B p q T (set7 F0 a b e v) a b e v n0 4 f n) (hn : n ≤ n1 + 4) (hn1 : n1 + 1 ≤ 4 * (cnt7 T F0 + 1)) (hc : cnt7 T F0 + 1 ≤ cnt7 T (set7 F0 a b e v)) (hv : v ≤ 2000 * ((cnt7 T F0 : Int) + 1)) (hd : ∀ x y d u, F0 x y d = some u → u ≤ 2000 * ((cnt7 T F0 : Int) + 1)) : Dj op M B p q T (set7 F0 a b e v) f n := by
  refine ⟨h.mid.all, h.low, by omega, fun x y d u hu => ?_⟩
  by_cases hs : x = a ∧ y = b ∧ d = e
  · obtain ⟨rfl, rfl, rfl⟩ := hs
    rw [set7_eq] at hu
    cases hu
    omega
  · rw [set7_ne F0 hs] at hu
    have := hd x y d u hu
    omega
/-- What the costs are: the least ones, and not too great. -/
def Costs (W H : Int) (K : Int → Int → Bool) (M B p q : Int) (F : Int → Int → Int → Option Int) : Prop :=
  Fin7 (opB W H K) M B p q F ∧ ∀ x y d v, F x y d = some v → v ≤ 8000000
end Lay
namespace Go.Proofs.Ytkkcnhhfdicppaa
open Go.RowKit Lay
set_option maxRecDepth 100000 in
set_option maxHeartbeats 8000000 in
theorem costs_any (W H M B x y : Int) (n cp m N : Nat) (ao : Option Addr) (K : Int → Int → Bool) (w : World)
    (hm : BMap w m N K) (hW : 0 ≤ W ∧ W ≤ 30) (hH : 0 ≤ H ∧ H ≤ 30) (hM : 0 ≤ M ∧ M ≤ 1000) (hB : 0 ≤ B ∧ B ≤ 1000) (hx : 0 ≤ x ∧ x < 30) (hy : 0 ≤ y ∧ y < 30) :
    Calls Try.prog 61 #[bdV W H M B ao n cp m, .agg #[.int .i64 x, .int .i64 y]] w fun e w' => ∃ b k F, e = .returned (.map (some b)) ∧ w.heap.size ≤ b ∧ SMap w' b k F ∧ Costs W H K M B x y F ∧ Below w.heap.size w w' := by
  have HM0 := Lib.hid hm
  have hml := hm.lt
  have hmm := @run_makeMap Try.prog
  clear hm
  go_enter Try.func61, Try.ntmps61
  go_upto_region 4 with fail
  have HB5 : Hid (Below w.heap.size w (((((w.alloc (.cells #[.int .i64 W, .int .i64 H, .int .i64 M, .int .i64 B, .slice ao n cp, .map (some m)] 68)).alloc (.cells #[.int .i64 x, .int .i64 y] 26)).alloc (.map #[] 0)).alloc (.cells #[] 124)).alloc (.cells #[.slice (some ⟨w.heap.size + 1 + 1 + 1, 0, none⟩) 0 0] 121))) := Lib.hid (bal (bal (bal (bal (bal (Below.refl _ _) _) _) _) _) _)
  have hz5 : (((((w.alloc (.cells #[.int .i64 W, .int .i64 H, .int .i64 M, .int .i64 B, .slice ao n cp, .map (some m)] 68)).alloc (.cells #[.int .i64 x, .int .i64 y] 26)).alloc (.map #[] 0)).alloc (.cells #[] 124)).alloc (.cells #[.slice (some ⟨w.heap.size + 1 + 1 + 1, 0, none⟩) 0 0] 121)).heap.size = w.heap.size + 5 := by simp
  have K2 : Hid ((((((w.alloc (.cells #[.int .i64 W, .int .i64 H, .int .i64 M, .int .i64 B, .slice ao n cp, .map (some m)] 68)).alloc (.cells #[.int .i64 x, .int .i64 y] 26)).alloc (.map #[] 0)).alloc (.cells #[] 124)).alloc (.cells #[.slice (some ⟨w.heap.size + 1 + 1 + 1, 0, none⟩) 0 0] 121)).heap[w.heap.size]? = some (.cells #[.int .i64 W, .int .i64 H, .int .i64 M, .int .i64 B, .slice ao n cp, .map (some m)] 68 (0, 0))) := Lib.hid ((Below.heap_alloc _ _ _ (by first | omega | (simp; done) | (simp; omega))).trans ((Below.heap_alloc _ _ _ (by first | omega | (simp; done) | (simp; omega))).trans ((Below.heap_alloc _ _ _ (by first | omega | (simp; done) | (simp; omega))).trans ((Below.heap_alloc _ _ _ (by first | omega | (simp; done))).trans (heap_alloc_new w _)))))
  have KS : Hid (SMap (((((w.alloc (.cells #[.int .i64 W, .int .i64 H, .int .i64 M, .int .i64 B, .slice ao n cp, .map (some m)] 68)).alloc (.cells #[.int .i64 x, .int .i64 y] 26)).alloc (.map #[] 0)).alloc (.cells #[] 124)).alloc (.cells #[.slice (some ⟨w.heap.size + 1 + 1 + 1, 0, none⟩) 0 0] 121)) (w.heap.size + 2) 0 (fun _ _ _ => none)) := Lib.hid (by
    have h := SMap.made ((w.alloc (.cells #[.int .i64 W, .int .i64 H, .int .i64 M, .int .i64 B, .slice ao n cp, .map (some m)] 68)).alloc (.cells #[.int .i64 x, .int .i64 y] 26))
    have e : ((w.alloc (.cells #[.int .i64 W, .int .i64 H, .int .i64 M, .int .i64 B, .slice ao n cp, .map (some m)] 68)).alloc (.cells #[.int .i64 x, .int .i64 y] 26)).heap.size = w.heap.size + 2 := by simp
    rw [e] at h
    exact (h.keep (Below.heap_alloc _ _ _ (by first | omega | (simp; done)))).keep (Below.heap_alloc _ _ _ (by first | omega | (simp; done) | (simp; omega))))
  have KQ : Hid (QAt (((((w.alloc (.cells #[.int .i64 W, .int .i64 H, .int .i64 M, .int .i64 B, .slice ao n cp, .map (some m)] 68)).alloc (.cells #[.int .i64 x, .int .i64 y] 26)).alloc (.map #[] 0)).alloc (.cells #[] 124)).alloc (.cells #[.slice (some ⟨w.heap.size + 1 + 1 + 1, 0, none⟩) 0 0] 121)) (fun k => w.heap.size + 2 < k) (w.heap.size + 4) 0 (fun _ => ⟨0, 0, 0, 0⟩)) := Lib.hid (by
    have h := heap_alloc_new ((((w.alloc (.cells #[.int .i64 W, .int .i64 H, .int .i64 M, .int .i64 B, .slice ao n cp, .map (some m)] 68)).alloc (.cells #[.int .i64 x, .int .i64 y] 26)).alloc (.map #[] 0)).alloc (.cells #[] 124)) (.cells #[.slice (some ⟨w.heap.size + 1 + 1 + 1, 0, none⟩) 0 0] 121)
    have e : ((((w.alloc (.cells #[.int .i64 W, .int .i64 H, .int .i64 M, .int .i64 B, .slice ao n cp, .map (some m)] 68)).alloc (.cells #[.int .i64 x, .int .i64 y] 26)).alloc (.map #[] 0)).alloc (.cells #[] 124)).heap.size = w.heap.size + 4 := by simp
    rw [e] at h
    have h2 := heap_alloc_new (((w.alloc (.cells #[.int .i64 W, .int .i64 H, .int .i64 M, .int .i64 B, .slice ao n cp, .map (some m)] 68)).alloc (.cells #[.int .i64 x, .int .i64 y] 26)).alloc (.map #[] 0)) (.cells #[] 124)
    have e2 : (((w.alloc (.cells #[.int .i64 W, .int .i64 H, .int .i64 M, .int .i64 B, .slice ao n cp, .map (some m)] 68)).alloc (.cells #[.int .i64 x, .int .i64 y] 26)).alloc (.map #[] 0)).heap.size = w.heap.size + 3 := by simp
    rw [e2] at h2
    exact ⟨w.heap.size + 3, 0, h, by omega, by omega, #[], (Below.heap_alloc _ _ _ (by first | omega | (simp; done))).trans h2, rfl, Nat.le_refl _, by unfold maxLen; omega, fun i hi => absurd hi (by omega)⟩)
  have KM : Hid (BMap (((((w.alloc (.cells #[.int .i64 W, .int .i64 H, .int .i64 M, .int .i64 B, .slice ao n cp, .map (some m)] 68)).alloc (.cells #[.int .i64 x, .int .i64 y] 26)).alloc (.map #[] 0)).alloc (.cells #[] 124)).alloc (.cells #[.slice (some ⟨w.heap.size + 1 + 1 + 1, 0, none⟩) 0 0] 121)) m N K) := Lib.hid (HM0.out.keep (HB5.out.block _ hml))
  generalize (((((w.alloc (.cells #[.int .i64 W, .int .i64 H, .int .i64 M, .int .i64 B, .slice ao n cp, .map (some m)] 68)).alloc (.cells #[.int .i64 x, .int .i64 y] 26)).alloc (.map #[] 0)).alloc (.cells #[] 124)).alloc (.cells #[.slice (some ⟨w.heap.size + 1 + 1 + 1, 0, none⟩) 0 0] 121)) = W5 at *
  obtain ⟨mm, hmm2⟩ : ∃ b, b = w.heap.size + 1 + 1 := ⟨_, rfl⟩
  obtain ⟨Q, hQ⟩ : ∃ b, b = w.heap.size + 1 + 1 + 1 + 1 := ⟨_, rfl⟩
  rw [show w.heap.size + 2 = mm by omega] at KS
  rw [show w.heap.size + 2 = mm by omega, show w.heap.size + 4 = Q by omega] at KQ
  rw [← hQ, ← hmm2]
  have hmQ : mm < Q := by omega
  have hwm : w.heap.size < mm := by omega
  have hmlm : m < mm := by omega
  have hzQ : W5.heap.size = Q + 1 := by omega
  clear hz5 HM0 hmm hmm2 hQ
  have hdb : Db (opB W H K) M B x y 0 (fun _ => ⟨0, 0, 0, 0⟩) 0 := ⟨⟨fun i hi => absurd hi (by omega), fun x y d h0 h1 => absurd h1 (by omega)⟩, fun i hi => absurd hi (by omega)⟩
  refine (extend_any (Db (opB W H K) M B x y) (fun k => mm < k) Q 0 (fun _ => ⟨0, 0, 0, 0⟩) W H M B x y (-1) 0 n cp m N ao K _ KQ.out (fun k h0 hk => absurd hk (by omega)) KM.out (by omega) (by omega) (fun k hk => by omega) (by omega) hW.2 hH.2 hM hB hx hy (by omega) hdb (fun k f n g m h0 h4 hp hx => hp.next h0 h4 hx hM)).mono ?_
  rintro e w6 ⟨rfl, ho, f6, n6, hn6, hq6, hh6, hp6⟩
  have hz6 : Q < w6.heap.size := by have := ho.size; omega
  have K26 : Hid (w6.heap[w.heap.size]? = some (.cells #[.int .i64 W, .int .i64 H, .int .i64 M, .int .i64 B, .slice ao n cp, .map (some m)] 68 (0, 0))) := Lib.hid ((ho.block _ (by omega) (by omega)).trans K2.out)
  have KS6 : Hid (SMap w6 mm (cnt7 (sts W.toNat H.toNat) (fun _ _ _ => none)) (fun _ _ _ => none)) := Lib.hid ((KS.out.keep (ho.block _ (by omega) (by omega))).more (Nat.zero_le _))
  have KQ6 := Lib.hid hq6
  have KH6 := Lib.hid hh6
  have KM6 := Lib.hid (KM.out.keep (ho.block _ (by omega) (by omega)))
  have KB6 : Hid (Below w.heap.size w w6) := Lib.hid (HB5.out.trans (ho.below (by omega) (by omega)))
  have KD6 : Hid (Dj (opB W H K) M B x y (sts W.toNat H.toNat) (fun _ _ _ => none) f6 n6) := Lib.hid ⟨hp6.beg.inv, fun i hi => by have := hp6.low i hi; omega, by omega, fun _ _ _ _ h => by cases h⟩
  clear ho hq6 hh6 hp6 K2 KS KQ KM HB5 hdb hzQ
  have hL : (sts W.toNat H.toNat).length ≤ 3600 := by
    rw [sts_len]
    have h1 : H.toNat * 4 ≤ 120 := by omega
    have h2 : W.toNat ≤ 30 := by omega
    exact Nat.le_trans (Nat.mul_le_mul h2 h1) (by decide)
  obtain ⟨T, hT⟩ : ∃ T, sts W.toNat H.toNat = T := ⟨_, rfl⟩
  have HT : Hid (∀ a b d : Int, opB W H K a b = true → 0 ≤ d → d < 4 → (a, b, d) ∈ T) := Lib.hid (fun a b d h0 h1 h2 => by
    have h := (opB_iff.1 h0).1
    rw [← hT]
    exact sts_mem h.1 (by omega) h.2.2.1 (by omega) h1 h2)
  rw [hT] at hL KS6 KD6
  clear hT
  go_wp2_with fail
  go_loopg [8] 20000 (fun gg v8 wr => ∃ (F : Int → Int → Int → Option Int) (f' : Nat → V) (n' : Nat), Hid (5 * (3600 - cnt7 T F) + n' ≤ gg) ∧ Hid (Dj (opB W H K) M B x y T F f' n') ∧ Hid (QAt wr (fun k => mm < k) Q n' f') ∧ Hid (Hp V.c f' n') ∧ Hid (SMap wr mm (cnt7 T F) F) ∧ Hid (BMap wr m N K) ∧ Hid (wr.heap[w.heap.size]? = some (.cells #[.int .i64 W, .int .i64 H, .int .i64 M, .int .i64 B, .slice ao n cp, .map (some m)] 68 (0, 0))) ∧ Hid (Below w.heap.size w wr) ∧ Q < wr.heap.size)
  case atStart => exact ⟨_, f6, n6, Lib.hid (by omega), KD6, KQ6, KH6, KS6, KM6, K26, KB6, hz6⟩
  case round =>
    obtain ⟨F, f', n', HG, HD, HQ, HH, HS, HM, H2, HB, hz⟩ := hrel
    clear KD6 KQ6 KH6 KS6 KM6 K26 KB6 hz6
    obtain ⟨g, cap, hc⟩ := HQ.out.cell
    have hcl := cnt7_le T F
    by_cases h0 : n' = 0
    · subst h0
      go_wp2_with fail
      refine (qLen_any _ _ _ _).mono ?_
      rintro e w1 ⟨rfl, rfl⟩
      go_wp2_with fail
      refine bodyPost_ret (v := .map (some mm)) (by simp [results, Try.results61, go_sem]) rfl ⟨mm, _, F, rfl, by omega, HS.out, ⟨HD.out.inv.fin hM.1 hB.1, fun a b d v hv => ?_⟩, HB.out⟩
      have := HD.out.dlow a b d v hv
      omega
    obtain ⟨n1, rfl⟩ : ∃ n1, n' = n1 + 1 := ⟨n' - 1, by omega⟩
    have hmin := HH.out.root
    obtain ⟨px, hpx⟩ : ∃ z, (f' 0).x = z := ⟨_, rfl⟩
    obtain ⟨py, hpy⟩ : ∃ z, (f' 0).y = z := ⟨_, rfl⟩
    obtain ⟨pd, hpd⟩ : ∃ z, (f' 0).d = z := ⟨_, rfl⟩
    obtain ⟨pc, hpc⟩ : ∃ z, (f' 0).c = z := ⟨_, rfl⟩
    have hwk := HD.out.inv.wait 0 (by omega)
    have hlo := HD.out.low 0 (by omega)
    have hfew := HD.out.few
    rw [hpx, hpy, hpd, hpc] at hwk
    rw [hpc] at hlo
    obtain ⟨hd0, hd4, hop⟩ := hwk.dir
    have hlow := hwk.low hM.1 hB.1
    have hmem := HT.out px py pd hop hd0 hd4
    have hon := (opB_iff.1 hop).1
    have HP := Lib.hid (And.intro hpx (And.intro hpy (And.intro hpd hpc)))
    have HMIN := Lib.hid hmin
    have HMEM := Lib.hid hmem
    clear hpx hpy hpd hpc hwk hmin hmem hop
    have hta := as_visit (.agg #[.int .i64 px, .int .i64 py, .int .i64 pd, .int .i64 pc])
    go_wp2_with fail
    refine (qLen_any _ _ _ _).mono ?_
    rintro e w1 ⟨rfl, rfl⟩
    clear hc
    go_wp2_with fail
    refine (hPop_any (fun k => mm < k) Q n1 f' _ HQ.out HH.out (by omega) (fun k hk => by omega)).mono ?_
    rw [HP.out.1, HP.out.2.1, HP.out.2.2.1, HP.out.2.2.2]
    rintro e w2 ⟨rfl, ho, f2, hq2, hh2, h1, h2⟩
    have hz2 : Q < w2.heap.size := by have := ho.size; omega
    have H22 : Hid (w2.heap[w.heap.size]? = some (.cells #[.int .i64 W, .int .i64 H, .int .i64 M, .int .i64 B, .slice ao n cp, .map (some m)] 68 (0, 0))) := Lib.hid ((ho.block _ (by omega) (by omega)).trans H2.out)
    have HS2 := Lib.hid (HS.out.keep (ho.block _ HS.out.lt (by omega)))
    have HM2 := Lib.hid (HM.out.keep (ho.block _ HM.out.lt (by omega)))
    have HB2 : Hid (Below w.heap.size w w2) := Lib.hid (HB.out.trans (ho.below (by omega) (by omega)))
    have HQ2 := Lib.hid hq2
    have HH2 := Lib.hid hh2
    have H12 := Lib.hid (And.intro h1 h2)
    clear ho hq2 hh2 h1 h2 HQ HH HS HM H2 HB
    obtain ⟨w3, hw3⟩ : ∃ z, z = w2.alloc (.cells #[.int .i64 px, .int .i64 py, .int .i64 pd, .int .i64 pc] 124) := ⟨_, rfl⟩
    have hb3 : Below w2.heap.size w2 w3 := by rw [hw3]; exact bal (Below.refl _ _) _
    have HV3 : Hid (w3.heap[w2.heap.size]? = some (.cells #[.int .i64 px, .int .i64 py, .int .i64 pd, .int .i64 pc] 124 (0, 0))) := Lib.hid (by rw [hw3]; exact heap_alloc_new w2 _)
    have hz3 : w3.heap.size = w2.heap.size + 1 := by rw [hw3]; simp
    have H23 : Hid (w3.heap[w.heap.size]? = some (.cells #[.int .i64 W, .int .i64 H, .int .i64 M, .int .i64 B, .slice ao n cp, .map (some m)] 68 (0, 0))) := Lib.hid ((hb3.block _ (by omega)).trans H22.out)
    have HS3 := Lib.hid (HS2.out.keep (hb3.block _ HS2.out.lt))
    have HM3 := Lib.hid (HM2.out.keep (hb3.block _ HM2.out.lt))
    have HB3 : Hid (Below w.heap.size w w3) := Lib.hid (HB2.out.trans (hb3.mono (by omega)))
    have HQ3 : Hid (QAt w3 (fun k => mm < k) Q n1 f2) := Lib.hid ((HQ2.out.sep (b := w2.heap.size) hb3 (Nat.le_refl _)).more (fun _ h => h.1))
    obtain ⟨v0, v1, v2, v3⟩ : w3.cell? ⟨w2.heap.size, 0, none⟩ = some (.int .i64 px) ∧ w3.cell? ⟨w2.heap.size, 1, none⟩ = some (.int .i64 py) ∧ w3.cell? ⟨w2.heap.size, 2, none⟩ = some (.int .i64 pd) ∧ w3.cell? ⟨w2.heap.size, 3, none⟩ = some (.int .i64 pc) := ⟨cell_of_blk HV3.out rfl, cell_of_blk HV3.out rfl, cell_of_blk HV3.out rfl, cell_of_blk HV3.out rfl⟩
    have hlook := HS3.out.look (x := px) (y := py) (d := pd) (wf7 (by omega) (by omega)) (wf7 (by omega) (by omega)) (wf7 (by omega) (by omega))
    clear hb3 H22 HS2 HM2 HB2 HQ2
    have H3 := Lib.hid hw3
    go_upto_region 6 with fail
    rw [← hw3]
    clear hw3
    cases hF : F px py pd with
    | some v =>
      rw [hF] at hlook
      simp only [Option.getD_some, Option.isSome_some] at hlook
      have HDn : Hid (Dj (opB W H K) M B x y T F f2 n1) := Lib.hid (HD.out.skip (by rw [HP.out.1, HP.out.2.1, HP.out.2.2.1, hF]; intro h; cases h) H12.out.1 H12.out.2)
      have hzn : Q < w3.heap.size := by omega
      clear HD hF HV3 H3
      go_wp2_with fail
      go_roundg (5 * (3600 - cnt7 T F) + n1)
      case measure => have := HG.out; omega
      case rel => exact ⟨F, f2, n1, Lib.hid (Nat.le_refl _), HDn, HQ3, HH2, HS3, HM3, H23, HB3, hzn⟩
    | none =>
      rw [hF] at hlook
      simp only [Option.getD_none, Option.isSome_none] at hlook
      have HF := Lib.hid hF
      have HC := Lib.hid (cnt7_set (v := pc) hF HMEM.out)
      have HDm : Hid (Dm (opB W H K) M B x y T (set7 F px py pd pc) px py pd pc 0 0 f2 n1) := Lib.hid (by
        have h := HD.out.take (g := f2) hM.1 hB.1 (by rw [HP.out.1, HP.out.2.1, HP.out.2.2.1]; exact hF) (by rw [HP.out.1, HP.out.2.1, HP.out.2.2.1]; exact HMEM.out) HMIN.out H12.out.1 H12.out.2
        rwa [HP.out.1, HP.out.2.1, HP.out.2.2.1, HP.out.2.2.2] at h)
      obtain ⟨w4, hrun4, hS4, hg4⟩ := HS3.out.put (x := px) (y := py) (d := pd) (v := pc) (by unfold maxLen; omega) (wf7 (by omega) (by omega)) (wf7 (by omega) (by omega)) (wf7 (by omega) (by omega)) (wf7 (by omega) (by omega))
      have hz4 := hg4.size
      have H24 : Hid (w4.heap[w.heap.size]? = some (.cells #[.int .i64 W, .int .i64 H, .int .i64 M, .int .i64 B, .slice ao n cp, .map (some m)] 68 (0, 0))) := Lib.hid ((hg4.block _ (by omega) (by intro e; cases e; omega)).trans H23.out)
      have HV4 : Hid (w4.heap[w2.heap.size]? = some (.cells #[.int .i64 px, .int .i64 py, .int .i64 pd, .int .i64 pc] 124 (0, 0))) := Lib.hid ((hg4.block _ (by omega) (by intro e; cases e; omega)).trans HV3.out)
      have HM4 := Lib.hid (HM3.out.keep (hg4.block _ HM3.out.lt (by intro e; cases e; omega)))
      have HB4 : Hid (Below w.heap.size w w4) := Lib.hid (HB3.out.grown hg4 (by omega) (by intro j e; cases e; omega))
      have HQ4 : Hid (QAt w4 (fun k => mm < k) Q n1 f2) := Lib.hid (by
        obtain ⟨g, cap, q1, q2, q3, q4⟩ := HQ3.out
        exact ⟨g, cap, (hg4.block _ (QV.l q1) (by intro e; cases e; omega)).trans q1, q2, q3, q4.keep (hg4.block _ q4.lt (by intro e; cases e; exact absurd q2 (Nat.lt_irrefl _)))⟩)
      have HS4 : Hid (SMap w4 mm (cnt7 T (set7 F px py pd pc)) (set7 F px py pd pc)) := Lib.hid (hS4.more HC.out)
      obtain ⟨y0, y1, y2, y3⟩ : w4.cell? ⟨w2.heap.size, 0, none⟩ = some (.int .i64 px) ∧ w4.cell? ⟨w2.heap.size, 1, none⟩ = some (.int .i64 py) ∧ w4.cell? ⟨w2.heap.size, 2, none⟩ = some (.int .i64 pd) ∧ w4.cell? ⟨w2.heap.size, 3, none⟩ = some (.int .i64 pc) := ⟨cell_of_blk HV4.out rfl, cell_of_blk HV4.out rfl, cell_of_blk HV4.out rfl, cell_of_blk HV4.out rfl⟩
      obtain ⟨d0, d1, d2, d3, d4, d5⟩ : w4.cell? ⟨w.heap.size, 0, none⟩ = some (.int .i64 W) ∧ w4.cell? ⟨w.heap.size, 1, none⟩ = some (.int .i64 H) ∧ w4.cell? ⟨w.heap.size, 2, none⟩ = some (.int .i64 M) ∧ w4.cell? ⟨w.heap.size, 3, none⟩ = some (.int .i64 B) ∧ w4.cell? ⟨w.heap.size, 4, none⟩ = some (.slice ao n cp) ∧ w4.cell? ⟨w.heap.size, 5, none⟩ = some (.map (some m)) := ⟨cell_of_blk H24.out rfl, cell_of_blk H24.out rfl, cell_of_blk H24.out rfl, cell_of_blk H24.out rfl, cell_of_blk H24.out rfl, cell_of_blk H24.out rfl⟩
      clear hF hS4 hg4 H23 HV3 HM3 HB3 HQ3 HS3 H3 HV4
      go_wp2_with fail
      refine (extend_any (Dm (opB W H K) M B x y T (set7 F px py pd pc) px py pd pc 0) (fun k => mm < k) Q n1 f2 W H M B px py pd pc n cp m N ao K _ HQ4.out HH2.out HM4.out (by omega) (by omega) (fun k hk => by omega) (by omega) hW.2 hH.2 hM hB (by omega) (by omega) (by omega) HDm.out (fun k f n g m k0 k4 hp hx => hp.next k0 k4 hx hB hM (by have := HC.out; omega))).mono ?_
      rintro e w5 ⟨rfl, ho, f5, n5, hn5, hq5, hh5, hp5⟩
      have hz5 : Q < w5.heap.size := by have := ho.size; omega
      have H25 : Hid (w5.heap[w.heap.size]? = some (.cells #[.int .i64 W, .int .i64 H, .int .i64 M, .int .i64 B, .slice ao n cp, .map (some m)] 68 (0, 0))) := Lib.hid ((ho.block _ (by omega) (by omega)).trans H24.out)
      have HS5 := Lib.hid (HS4.out.keep (ho.block _ HS4.out.lt (by omega)))
      have HM5 := Lib.hid (HM4.out.keep (ho.block _ HM4.out.lt (by omega)))
      have HB5 : Hid (Below w.heap.size w w5) := Lib.hid (HB4.out.trans (ho.below (by omega) (by omega)))
      have HQ5 := Lib.hid hq5
      have HH5 := Lib.hid hh5
      have HD5 : Hid (Dj (opB W H K) M B x y T (set7 F px py pd pc) f5 n5) := Lib.hid (hp5.all hn5 hfew HC.out hlo HD.out.dlow)
      have hcl5 := cnt7_le T (set7 F px py pd pc)
      clear ho hq5 hh5 hp5 H24 HS4 HM4 HB4 HQ4 HD y0 y1 y2 y3 d0 d1 d2 d3 d4 d5 v0 v1 v2 v3 hlook hrun4
      go_wp2_with fail
      go_roundg (5 * (3600 - cnt7 T (set7 F px py pd pc)) + n5)
      case measure => have := HG.out; have := HC.out; omega
      case rel => exact ⟨_, f5, n5, Lib.hid (Nat.le_refl _), HD5, HQ5, HH5, HS5, HM5, H25, HB5, hz5⟩

end Go.Proofs.Ytkkcnhhfdicppaa
