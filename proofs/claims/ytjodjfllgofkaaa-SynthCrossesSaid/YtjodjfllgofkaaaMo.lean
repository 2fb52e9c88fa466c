import Derived.Test.YtjodjfllgofkaaaPq
namespace Go.Proofs.Ytjodjfllgofkaaa
open Go.RowKit Amp
attribute [local go_sem] ix0 ix1 ix2 ix3 jx0 jx1 jx2 jx3
attribute [local go_sem high] run_eqNum run_neNum

/-- P3.4: the matrix of flat items, or the error. -/
def mofE (N : Int) (len : Nat) (f : Nat → It) : Int := if askS N len f = 0 then (prodS N.toNat f len).2 else askS N len f
theorem askS_ok {N : Int} {len : Nat} {f : Nat → It} (h : askS N len f = 0) : 1 ≤ N ∧ N ≤ 6 ∧ len ≤ 5000 ∧ fitTo N.toNat f len = true := by
  unfold askS at h
  split at h
  · next h1 =>
    split at h
    · next h2 => exact ⟨h1.1, h1.2, h2.1, h2.2⟩
    · cases h
  · cases h
set_option maxHeartbeats 2000000 in
theorem matrixOf_ok (n len lap : Nat) (ao : Option Addr) (f : Nat → It) (w : World) (hlen : len ≤ 9223372036854775807) (hc : Its w ao len f) (ha : Hid (askS n len f = 0)) :
    Calls Try.prog 10 #[.int .i64 n, .slice ao len lap] w fun e w' => MatWOr w.heap.size w' e n (prodS n f len).1 (prodS n f len).2 ∧ Below w.heap.size w w' := by
  have HC := Lib.hid hc
  have HA := Lib.hid (askS_ok ha.out)
  have HN : Hid (0 < n ∧ n ≤ 6) := Lib.hid (by have := HA.out; omega)
  have HF : Hid (fitTo n f len = true) := Lib.hid (by have := HA.out.2.2.2; rwa [Int.toNat_natCast] at this)
  clear hc
  go_enter Try.func10, Try.ntmps10
  go_wp2_with fail
  refine (mcheck_any n len lap ao f _ hlen (HC.out.keep (by go_grown))).mono ?_
  rintro e w1 ⟨rfl, hb⟩
  rw [ha.out]
  obtain ⟨ka1, kb1⟩ := bcell hb
  have c1_0_0 : w1.cell? ⟨w.heap.size, 0, none⟩ = some (.int .i64 0) := (ka1 _ _ (by first | omega | (simp; done) | (simp; omega))).trans (by go_cell)
  have f1_0_0 : w1.frozen? ⟨w.heap.size, 0, none⟩ = false := (kb1 _ _ (by first | omega | (simp; done) | (simp; omega))).trans (by go_cell)
  have c1_0_1 : w1.cell? ⟨w.heap.size, 1, none⟩ = some (.slice none 0 0) := (ka1 _ _ (by first | omega | (simp; done) | (simp; omega))).trans (by go_cell)
  have f1_0_1 : w1.frozen? ⟨w.heap.size, 1, none⟩ = false := (kb1 _ _ (by first | omega | (simp; done) | (simp; omega))).trans (by go_cell)
  have D1 : Below w.heap.size w w1 := Below.trans (by go_grown) (hb.mono (by first | omega | (simp; done) | (simp; omega)))
  have s1_0 : w.heap.size < w1.heap.size := by have hs := hb.size; (try simp at hs); omega
  clear hb ka1 kb1
  go_wp2_with fail
  refine (mproduct_any n len lap ao f _ HN.out.1 HN.out.2 HA.out.2.2.1 (HC.out.keep (by go_grown)) HF).mono ?_
  rintro e w2 ⟨hm, hb⟩
  have HM := Lib.hid hm
  clear hm
  obtain ⟨ka2, kb2⟩ := bcell hb
  have c2_0_0 : w2.cell? ⟨w.heap.size, 0, none⟩ = some (.int .i64 0) := (ka2 _ _ (by first | omega | (simp; done) | (simp; omega))).trans (by go_cell)
  have f2_0_0 : w2.frozen? ⟨w.heap.size, 0, none⟩ = false := (kb2 _ _ (by first | omega | (simp; done) | (simp; omega))).trans (by go_cell)
  have c2_0_1 : w2.cell? ⟨w.heap.size, 1, none⟩ = some (.slice none 0 0) := (ka2 _ _ (by first | omega | (simp; done) | (simp; omega))).trans (by go_cell)
  have f2_0_1 : w2.frozen? ⟨w.heap.size, 1, none⟩ = false := (kb2 _ _ (by first | omega | (simp; done) | (simp; omega))).trans (by go_cell)
  have D2 : Below w.heap.size w w2 := Below.trans (by go_grown) (hb.mono (by first | omega | (simp; done) | (simp; omega)))
  have s2_0 : w.heap.size < w2.heap.size := by have hs := hb.size; (try simp at hs); omega
  clear hb ka2 kb2
  clear D1 c1_0_0 f1_0_0 c1_0_1 f1_0_1
  rcases HM.out with ⟨he, gg, gap, rfl, hnu, hg1, hg2, hg3⟩ | ⟨he, rfl⟩
  · have HN1 := Lib.hid hnu
    have HG := Lib.hid (And.intro hg2 hg3)
    have hg4 : ¬ w.heap.size = gg := by first | omega | (simp at hg1; omega)
    have hg5 : w.heap.size ≤ gg := by first | omega | (simp at hg1; omega)
    have HG5 := Lib.hid (And.intro hg4 hg5)
    clear hnu hg1 hg2 hg3 hg4 hg5
    go_wp2_with fail
    refine bodyPost_ret (v := .tuple #[.agg #[.int .i64 n, .slice (some ⟨gg, 0, none⟩) (n * n) gap], .int .i64 0]) (by simp [results, Try.results10, go_sem, *]) rfl ⟨.inl ⟨he, gg, gap, rfl, ?_, HG5.out.2, HG.out.1, HG.out.2⟩, by go_grown⟩
    exact (HN1.out.other HG5.out.1).other HG5.out.1
  · have HE := Lib.hid he
    obtain ⟨er, hr⟩ : ∃ er, Hid ((prodS n f len).2 = er) := ⟨_, rfl⟩
    rw [hr.out]
    clear he
    go_wp2_with fail
    refine bodyPost_ret (v := .tuple #[.agg #[.int .i64 0, .slice none 0 0], .int .i64 er]) (by simp [results, Try.results10, go_sem, *]) rfl ⟨.inr ⟨HE.out, by rw [hr.out]⟩, by go_grown⟩
set_option maxHeartbeats 2000000 in
theorem matrixOf_no (N : Int) (len lap : Nat) (ao : Option Addr) (f : Nat → It) (w : World) (hlen : len ≤ 9223372036854775807) (hc : Its w ao len f) (ha : Hid (¬ askS N len f = 0)) :
    Calls Try.prog 10 #[.int .i64 N, .slice ao len lap] w fun e w' => e = .returned (.tuple #[.agg #[.int .i64 0, .slice none 0 0], .int .i64 (askS N len f)]) ∧ Below w.heap.size w w' := by
  have HC := Lib.hid hc
  obtain ⟨er, hr⟩ : ∃ er, Hid (askS N len f = er) := ⟨_, rfl⟩
  have hne : ¬ er = 0 := by rw [← hr.out]; exact ha.out
  have hb0 : (er == 0) = false := beq_eq_false_iff_ne.2 hne
  have hb1 : (er != 0) = true := bne_iff_ne.2 hne
  clear hc hne
  go_enter Try.func10, Try.ntmps10
  go_wp2_with fail
  refine (mcheck_any N len lap ao f _ hlen (HC.out.keep (by go_grown))).mono ?_
  rintro e w1 ⟨rfl, hb⟩
  rw [hr.out]
  obtain ⟨ka1, kb1⟩ := bcell hb
  have c1_0_0 : w1.cell? ⟨w.heap.size, 0, none⟩ = some (.int .i64 0) := (ka1 _ _ (by first | omega | (simp; done) | (simp; omega))).trans (by go_cell)
  have f1_0_0 : w1.frozen? ⟨w.heap.size, 0, none⟩ = false := (kb1 _ _ (by first | omega | (simp; done) | (simp; omega))).trans (by go_cell)
  have c1_0_1 : w1.cell? ⟨w.heap.size, 1, none⟩ = some (.slice none 0 0) := (ka1 _ _ (by first | omega | (simp; done) | (simp; omega))).trans (by go_cell)
  have f1_0_1 : w1.frozen? ⟨w.heap.size, 1, none⟩ = false := (kb1 _ _ (by first | omega | (simp; done) | (simp; omega))).trans (by go_cell)
  have D1 : Below w.heap.size w w1 := Below.trans (by go_grown) (hb.mono (by first | omega | (simp; done) | (simp; omega)))
  have s1_0 : w.heap.size < w1.heap.size := by have hs := hb.size; (try simp at hs); omega
  clear hb ka1 kb1
  go_wp2_with fail
  refine bodyPost_ret (v := .tuple #[.agg #[.int .i64 0, .slice none 0 0], .int .i64 er]) (by simp [results, Try.results10, go_sem, *]) rfl ⟨by rw [hr.out], by go_grown⟩
end Go.Proofs.Ytjodjfllgofkaaa
