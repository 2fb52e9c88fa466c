import Derived.Test.YtjodjfllgofkaaaTm
import Derived.Test.YtjodjfllgofkaaaMo
import Derived.RegionTactic
namespace Amp
theorem made_err {x : C4} {k : Nat} (h : (made x k).2 ≠ 0) : made x k = (N0, 4) := by
  unfold made at h ⊢
  split
  · next h1 => rw [if_pos h1] at h; exact absurd rfl h
  · rfl
theorem mulS_err {x y : Nm} (hx : vld x = true) (hy : vld y = true) (h : (mulS x y).2 ≠ 0) : mulS x y = (N0, 4) := by
  unfold mulS at h ⊢
  rw [hx, hy] at h ⊢
  exact made_err h
theorem addS_err {x y : Nm} (hx : vld x = true) (hy : vld y = true) (h : (addS x y).2 ≠ 0) : addS x y = (N0, 4) := by
  unfold addS at h ⊢
  rw [hx, hy] at h ⊢
  exact made_err h
theorem tot_err {f : Nat → Nm} (hf : ∀ k, vld (f k) = true) (k : Nat) (h : (tot f k).2 ≠ 0) : tot f k = (N0, 4) := by
  induction k with
  | zero => exact absurd rfl h
  | succ k ih =>
    simp only [tot, stepS] at h ⊢
    by_cases e : (tot f k).2 = 0
    · rw [if_pos e] at h ⊢
      by_cases a : (addS (tot f k).1 (f k)).2 = 0
      · rw [if_pos a] at h; exact absurd a h
      · rw [if_neg a, addS_err (tot_vld f k) (hf k) a]
    · rw [if_neg e]; exact ih e
theorem prV_vld (x y : Nat → Nm) (k : Nat) : vld (prV x y k) = true := mulS_vld _ _
theorem rowS_claim {x y : Nat → Nm} {n : Nat} (hx : ∀ k, k < n → vld (x k) = true) (hy : ∀ k, k < n → vld (y k) = true) (k : Nat) (hk : k ≤ n) :
    (fstE (prE x y) k = 0 → rowS x y k = tot (prV x y) k) ∧ (fstE (prE x y) k ≠ 0 → rowS x y k = (N0, 4) ∧ fstE (prE x y) k = 4) := by
  induction k with
  | zero => exact ⟨fun _ => rfl, fun h => absurd rfl h⟩
  | succ k ih =>
    obtain ⟨i1, i2⟩ := ih (by omega)
    have hm := mulS_err (hx k (by omega)) (hy k (by omega))
    by_cases e : fstE (prE x y) k = 0
    · have hr := i1 e
      have hf : fstE (prE x y) (k + 1) = (mulS (x k) (y k)).2 := fstE_step e
      rw [hf]
      by_cases t0 : (tot (prV x y) k).2 = 0
      · have hrw : rowS x y (k + 1) = if (mulS (x k) (y k)).2 = 0 then (if (addS (tot (prV x y) k).1 (mulS (x k) (y k)).1).2 = 0 then addS (tot (prV x y) k).1 (mulS (x k) (y k)).1 else (N0, (addS (tot (prV x y) k).1 (mulS (x k) (y k)).1).2)) else (N0, (mulS (x k) (y k)).2) := by
          rw [rowS, hr, if_pos t0]
        have htt : tot (prV x y) (k + 1) = if (addS (tot (prV x y) k).1 (mulS (x k) (y k)).1).2 = 0 then addS (tot (prV x y) k).1 (mulS (x k) (y k)).1 else (N0, (addS (tot (prV x y) k).1 (mulS (x k) (y k)).1).2) := by
          simp only [tot, stepS]
          rw [if_pos t0]; rfl
        refine ⟨fun h => by rw [hrw, if_pos h, htt], fun h => ?_⟩
        have h4 := hm h
        rw [hrw, if_neg h, h4]
        exact ⟨rfl, rfl⟩
      · have ht := tot_err (prV_vld x y) k t0
        have hrw : rowS x y (k + 1) = (N0, 4) := by
          rw [rowS, hr, if_neg t0, ht]
        have htt : tot (prV x y) (k + 1) = (N0, 4) := by
          simp only [tot, stepS]
          rw [if_neg t0, ht]
        exact ⟨fun _ => by rw [hrw, htt], fun h => ⟨hrw, by rw [hm h]⟩⟩
    · obtain ⟨j1, j2⟩ := i2 e
      have hf : fstE (prE x y) (k + 1) = 4 := by rw [fstE, if_neg e, j2]
      refine ⟨fun h => by rw [hf] at h; omega, fun _ => ⟨?_, hf⟩⟩
      rw [rowS, j1]; rfl
theorem rowS_dot {x y : Nat → Nm} {n : Nat} (hn : n ≤ 1000) (hx : ∀ k, k < n → vld (x k) = true) (hy : ∀ k, k < n → vld (y k) = true) : rowS x y n = dotS x y n := by
  obtain ⟨c1, c2⟩ := rowS_claim hx hy n (Nat.le_refl n)
  unfold dotS
  by_cases e : fstE (prE x y) n = 0
  · rw [if_pos e, c1 e, sumS_ok (by omega) (okTo_all (fun k _ => prV_vld x y k))]
  · obtain ⟨j1, j2⟩ := c2 e
    rw [if_neg e, j1, j2]
end Amp
namespace Go.Proofs.Ytjodjfllgofkaaa
open Go.RowKit Amp
theorem timZ_mul {n : Nat} {x y : Nat → Nm} (hn : n ≤ 6) (hx : ∀ k, vld (x k) = true) (hy : ∀ k, vld (y k) = true) (i j : Nat) : timZ n x y i j = mulZ n x y i j :=
  rowS_dot (by omega) (fun k _ => hx _) (fun k _ => hy _)
theorem timF_mul {n : Nat} {x y : Nat → Nm} (hn : n ≤ 6) (hx : ∀ k, vld (x k) = true) (hy : ∀ k, vld (y k) = true) : timF n x y = mulF n x y := by
  funext k; unfold timF mulF; rw [timZ_mul hn hx hy]
theorem timE_mul {n : Nat} {x y : Nat → Nm} (hn : n ≤ 6) (hx : ∀ k, vld (x k) = true) (hy : ∀ k, vld (y k) = true) : fstE (timE n x y) (n * n) = mulE n x y := by
  unfold mulE
  congr 1
  funext k
  unfold timE
  rw [timZ_mul hn hx hy]
theorem rTimes_eq (n g h cap dap : Nat) (x y : Nat → Nm) (w : World) (h1 : 0 < n) (hn : n ≤ 6) (hx : Nums w (some ⟨g, 0, none⟩) (n * n) x) (hy : Nums w (some ⟨h, 0, none⟩) (n * n) y) (vx : ∀ k, vld (x k) = true) (vy : ∀ k, vld (y k) = true) :
    Calls Try.prog 45 #[.agg #[.int .i64 n, .slice (some ⟨g, 0, none⟩) (n * n) cap], .agg #[.int .i64 n, .slice (some ⟨h, 0, none⟩) (n * n) dap]] w fun e w' => MatWOr w.heap.size w' e n (mulF n x y) (mulE n x y) ∧ Below w.heap.size w w' := by
  have h0 := rTimes_any n g h cap dap x y w h1 hn hx hy
  rw [timF_mul hn vx vy, timE_mul hn vx vy] at h0
  exact h0
end Go.Proofs.Ytjodjfllgofkaaa

namespace Go.Proofs.Ytjodjfllgofkaaa
open Go.RowKit Amp
attribute [local go_sem] ix0 ix1 ix2 ix3 jx0 jx1 jx2 jx3
attribute [local go_sem high] run_eqNum run_neNum

def Two (w : World) (n : Nat) : Prop := w.cell? ⟨n, 0, none⟩ = some (.int .i64 0) ∧ w.cell? ⟨n, 1, none⟩ = some (.slice none 0 0) ∧ w.frozen? ⟨n, 0, none⟩ = false ∧ w.frozen? ⟨n, 1, none⟩ = false
theorem with_keep2 {w w1 : World} {n : Nat} {G : Prop} (hb : Below w.heap.size w w1) (h : Two w n) (hn : n < w.heap.size) (K : Two w1 n → G) : G := by
  obtain ⟨h0, h1, h2, h3⟩ := h
  exact K ⟨(hb.cell (p := ⟨n, 0, none⟩) hn).trans h0, (hb.cell (p := ⟨n, 1, none⟩) hn).trans h1, (hb.frozen (p := ⟨n, 0, none⟩) hn).trans h2, (hb.frozen (p := ⟨n, 1, none⟩) hn).trans h3⟩
theorem MRes.alloc {B : Nat} {w : World} {n : Nat} {F : Nat → Nm} {er x0 : Int} {so : Option Addr} {sl sc : Nat} (h : MRes B w n F er x0 so sl sc) (o : Obj) : MRes B (w.alloc o) n F er x0 so sl sc := by
  rcases h with ⟨h0, g, h1, h2, h3, h4, h5, h6⟩ | h
  · exact .inl ⟨h0, g, h1, h2, h3, h4.alloc _, h5, h6⟩
  · exact .inr h
theorem rTimes_res (n g h cap dap : Nat) (x y : Nat → Nm) (w : World) (h1 : 0 < n) (hn : n ≤ 6) (hx : Nums w (some ⟨g, 0, none⟩) (n * n) x) (hy : Nums w (some ⟨h, 0, none⟩) (n * n) y) (vx : ∀ k, vld (x k) = true) (vy : ∀ k, vld (y k) = true) :
    Calls Try.prog 45 #[.agg #[.int .i64 n, .slice (some ⟨g, 0, none⟩) (n * n) cap], .agg #[.int .i64 n, .slice (some ⟨h, 0, none⟩) (n * n) dap]] w fun e w' => (∃ (x0 : Int) (so : Option Addr) (sl sc : Nat), e = .returned (.tuple #[.agg #[.int .i64 x0, .slice so sl sc], .int .i64 (mulE n x y)]) ∧ Hid (MRes w.heap.size w' n (mulF n x y) (mulE n x y) x0 so sl sc)) ∧ Below w.heap.size w w' :=
  (rTimes_eq n g h cap dap x y w h1 hn hx hy vx vy).mono fun e w' ⟨hm, hb⟩ => ⟨by
    rcases hm with ⟨h0, g, cap, rfl, h4, h5, h6, h7⟩ | ⟨h0, rfl⟩
    · exact ⟨n, some ⟨g, 0, none⟩, n * n, cap, by rw [h0], Lib.hid (.inl ⟨h0, g, rfl, rfl, rfl, h4, h5, h6, h7⟩)⟩
    · exact ⟨0, none, 0, 0, rfl, Lib.hid (.inr ⟨h0, rfl, rfl, rfl, rfl⟩)⟩, hb⟩

set_option maxRecDepth 100000 in
set_option maxHeartbeats 4000000 in
theorem rMatrixOf_ok (n len lap : Nat) (ao : Option Addr) (f : Nat → It) (w : World) (hlen : len ≤ 9223372036854775807) (hc : Its w ao len f) (ha : Hid (askS n len f = 0)) :
    Calls Try.prog 11 #[.int .i64 n, .slice ao len lap] w fun e w' => MatWOr w.heap.size w' e n (prodS n f len).1 (prodS n f len).2 ∧ Below w.heap.size w w' := by
  have HC := Lib.hid hc
  have HA := Lib.hid (askS_ok ha.out)
  obtain ⟨h1, hn⟩ : 0 < n ∧ n ≤ 6 := by have := HA.out; omega
  have HF : Hid (fitTo n f len = true) := Lib.hid (by have := HA.out.2.2.2; rwa [Int.toNat_natCast] at this)
  clear hc
  go_enter Try.func11, Try.ntmps11
  go_wp2_with fail
  refine (asked_any n len lap ao f _ hlen (HC.out.keep (by go_grown))).mono ?_
  rintro e w0 ⟨rfl, hb⟩
  rw [ha.out]
  obtain ⟨ka1, kb1⟩ := bcell hb
  have c1_0_0 : w0.cell? ⟨w.heap.size, 0, none⟩ = some (.int .i64 0) := (ka1 _ _ (by first | omega | (simp; done) | (simp; omega))).trans (by go_cell)
  have f1_0_0 : w0.frozen? ⟨w.heap.size, 0, none⟩ = false := (kb1 _ _ (by first | omega | (simp; done) | (simp; omega))).trans (by go_cell)
  have c1_0_1 : w0.cell? ⟨w.heap.size, 1, none⟩ = some (.slice none 0 0) := (ka1 _ _ (by first | omega | (simp; done) | (simp; omega))).trans (by go_cell)
  have f1_0_1 : w0.frozen? ⟨w.heap.size, 1, none⟩ = false := (kb1 _ _ (by first | omega | (simp; done) | (simp; omega))).trans (by go_cell)
  have D1 : Below w.heap.size w w0 := Below.trans (by go_grown) (hb.mono (by first | omega | (simp; done) | (simp; omega)))
  have s1_0 : w.heap.size < w0.heap.size := by have hs := hb.size; (try simp at hs); omega
  clear hb ka1 kb1
  go_wp2_with fail
  refine (rIdentity3 n _ h1 hn).mono ?_
  rintro e w1 ⟨⟨g0, cap0, rfl, hnu, hg1, hg2, hg3⟩, hb⟩
  have HN := Lib.hid hnu
  have hg6 : g0 < w1.heap.size := World.block_lt_of_cell? w1 _ (hnu 0 (Nat.mul_pos h1 h1)).1.1
  have hg5 : w.heap.size + 1 ≤ g0 := by first | omega | (simp at hg1; omega)
  have HG := Lib.hid (And.intro hg2 hg3)
  clear hnu hg1 hg2 hg3
  obtain ⟨ka2, kb2⟩ := bcell hb
  have c2_0_0 : w1.cell? ⟨w.heap.size, 0, none⟩ = some (.int .i64 0) := (ka2 _ _ (by first | omega | (simp; done) | (simp; omega))).trans (by go_cell)
  have f2_0_0 : w1.frozen? ⟨w.heap.size, 0, none⟩ = false := (kb2 _ _ (by first | omega | (simp; done) | (simp; omega))).trans (by go_cell)
  have c2_0_1 : w1.cell? ⟨w.heap.size, 1, none⟩ = some (.slice none 0 0) := (ka2 _ _ (by first | omega | (simp; done) | (simp; omega))).trans (by go_cell)
  have f2_0_1 : w1.frozen? ⟨w.heap.size, 1, none⟩ = false := (kb2 _ _ (by first | omega | (simp; done) | (simp; omega))).trans (by go_cell)
  have D2 : Below w.heap.size w w1 := Below.trans (by go_grown) (hb.mono (by first | omega | (simp; done) | (simp; omega)))
  have s2_0 : w.heap.size < w1.heap.size := by have hs := hb.size; (try simp at hs); omega
  clear hb ka2 kb2
  clear D1 c1_0_0 f1_0_0 c1_0_1 f1_0_1
  go_wp2_with fail
  go_loopw [9, 10, 11, 23] (fun _ _ _ iv wr => ∃ (k : Nat) (g cap : Nat), iv = .int .i64 k ∧ k ≤ len ∧ Hid ((prodS n f k).2 = 0) ∧ wr.cell? ⟨w1.heap.size, 0, none⟩ = some (.int .i64 n) ∧ wr.cell? ⟨w1.heap.size, 1, none⟩ = some (.slice (some ⟨g, 0, none⟩) (n * n) cap) ∧ Hid (Numw wr g (n * n) (prodS n f k).1) ∧ w.heap.size + 1 ≤ g ∧ ¬ w1.heap.size = g ∧ Hid (n * n ≤ cap ∧ cap ≤ 9223372036854775807) ∧ wr.frozen? ⟨w1.heap.size, 0, none⟩ = false ∧ wr.frozen? ⟨w1.heap.size, 1, none⟩ = false ∧ wr.cell? ⟨w.heap.size, 0, none⟩ = some (.int .i64 0) ∧ wr.cell? ⟨w.heap.size, 1, none⟩ = some (.slice none 0 0) ∧ wr.frozen? ⟨w.heap.size, 0, none⟩ = false ∧ wr.frozen? ⟨w.heap.size, 1, none⟩ = false ∧ Below w.heap.size w wr ∧ w1.heap.size < wr.heap.size) (fun _ _ _ iv _ => len - (intOf iv).toNat)
  case atStart => exact ⟨0, g0, cap0, rfl, by omega, Lib.hid rfl, by go_cell, by go_cell, Lib.hid (HN.out.alloc _), hg5, by omega, HG, by go_cell, by go_cell, by go_cell, by go_cell, by go_cell, by go_cell, by go_grown, by simp⟩
  case round =>
    obtain ⟨k, g, cap, rfl, hk, HER, m0, m1, HN1, hgB, hMg, HGC, f0, f1, r0, r1, q0, q1, hbel, hsz⟩ := hrel
    have hsz0 : w.heap.size < wr.heap.size := by omega
    have hRM : ¬ w.heap.size = w1.heap.size := by omega
    by_cases hlt : k < len
    · have hlt' : (k : Int) < (len : Int) := by omega
      obtain ⟨b, o, rfl, hcell⟩ := (Its.keep HC.out hbel) (by omega)
      obtain ⟨⟨kd, at', m, nm⟩, hx⟩ : ∃ x : It, f k = x := ⟨_, rfl⟩
      have hz := hcell k hlt
      have hitf := fitTo_at HF.out hlt
      rw [hx] at hz hitf
      obtain ⟨c0, c1, c2, c3, _⟩ := hz
      simp only at c0 c1 c2 c3
      obtain ⟨hk3, hat1, hat2, hat3, hown⟩ := itF_own hitf
      have HK3 := Lib.hid hk3
      have HIT := Lib.hid (And.intro hat2 (And.intro hat3 hown))
      have HX := Lib.hid hx
      have lb : b < wr.heap.size := World.block_lt_of_cell? wr _ c0
      have hne : ¬ wr.heap.size = b := by omega
      have hneM : ¬ wr.heap.size = w1.heap.size := by omega
      have hneR : ¬ wr.heap.size = w.heap.size := by omega
      have HGB := Lib.hid (And.intro hgB hMg)
      clear hcell hx hitf hk3 hat1 hat2 hat3 hown hgB hMg
      have HST : Hid (prodS n f (k + 1) = (mulF n (sprI n ⟨kd, at', m, nm⟩) (prodS n f k).1, mulE n (sprI n ⟨kd, at', m, nm⟩) (prodS n f k).1)) := Lib.hid (by rw [prodS_step HER.out, HX.out])
      go_upto_region 8 with fail
      have hw0 : Below wr.heap.size wr (wr.alloc (Obj.cells #[.int .i64 kd, .int .i64 at', .int .i64 m, .string nm] 68)) := by go_grown
      have hs0 : (wr.alloc (Obj.cells #[.int .i64 kd, .int .i64 at', .int .i64 m, .string nm] 68)).cell? ⟨wr.heap.size, 0, none⟩ = some (.int .i64 kd) ∧ (wr.alloc (Obj.cells #[.int .i64 kd, .int .i64 at', .int .i64 m, .string nm] 68)).cell? ⟨wr.heap.size, 1, none⟩ = some (.int .i64 at') ∧ (wr.alloc (Obj.cells #[.int .i64 kd, .int .i64 at', .int .i64 m, .string nm] 68)).cell? ⟨wr.heap.size, 2, none⟩ = some (.int .i64 m) ∧ (wr.alloc (Obj.cells #[.int .i64 kd, .int .i64 at', .int .i64 m, .string nm] 68)).cell? ⟨wr.heap.size, 3, none⟩ = some (.string nm) ∧ (wr.alloc (Obj.cells #[.int .i64 kd, .int .i64 at', .int .i64 m, .string nm] 68)).cell? ⟨w1.heap.size, 0, none⟩ = some (.int .i64 n) ∧ (wr.alloc (Obj.cells #[.int .i64 kd, .int .i64 at', .int .i64 m, .string nm] 68)).cell? ⟨w1.heap.size, 1, none⟩ = some (.slice (some ⟨g, 0, none⟩) (n * n) cap) := ⟨by go_cell, by go_cell, by go_cell, by go_cell, by go_cell, by go_cell⟩
      have hfz : (wr.alloc (Obj.cells #[.int .i64 kd, .int .i64 at', .int .i64 m, .string nm] 68)).frozen? ⟨w1.heap.size, 0, none⟩ = false ∧ (wr.alloc (Obj.cells #[.int .i64 kd, .int .i64 at', .int .i64 m, .string nm] 68)).frozen? ⟨w1.heap.size, 1, none⟩ = false := ⟨by go_cell, by go_cell⟩
      have hrz : (wr.alloc (Obj.cells #[.int .i64 kd, .int .i64 at', .int .i64 m, .string nm] 68)).cell? ⟨w.heap.size, 0, none⟩ = some (.int .i64 0) ∧ (wr.alloc (Obj.cells #[.int .i64 kd, .int .i64 at', .int .i64 m, .string nm] 68)).cell? ⟨w.heap.size, 1, none⟩ = some (.slice none 0 0) ∧ (wr.alloc (Obj.cells #[.int .i64 kd, .int .i64 at', .int .i64 m, .string nm] 68)).frozen? ⟨w.heap.size, 0, none⟩ = false ∧ (wr.alloc (Obj.cells #[.int .i64 kd, .int .i64 at', .int .i64 m, .string nm] 68)).frozen? ⟨w.heap.size, 1, none⟩ = false := ⟨by go_cell, by go_cell, by go_cell, by go_cell⟩
      have hwsz : (wr.alloc (Obj.cells #[.int .i64 kd, .int .i64 at', .int .i64 m, .string nm] 68)).heap.size = wr.heap.size + 1 := by simp
      generalize (wr.alloc (Obj.cells #[.int .i64 kd, .int .i64 at', .int .i64 m, .string nm] 68)) = W at *
      have lM : w1.heap.size < W.heap.size := by omega
      have lR : w.heap.size < W.heap.size := by omega
      have lX : wr.heap.size < W.heap.size := by omega
      have V0 : ∀ w', Below W.heap.size W w' → w'.cell? ⟨wr.heap.size, 0, none⟩ = some (.int .i64 kd) ∧ w'.cell? ⟨wr.heap.size, 1, none⟩ = some (.int .i64 at') ∧ w'.cell? ⟨wr.heap.size, 2, none⟩ = some (.int .i64 m) ∧ w'.cell? ⟨wr.heap.size, 3, none⟩ = some (.string nm) ∧ w'.cell? ⟨w1.heap.size, 0, none⟩ = some (.int .i64 n) ∧ w'.cell? ⟨w1.heap.size, 1, none⟩ = some (.slice (some ⟨g, 0, none⟩) (n * n) cap) := fun w' hb => by
        have e1 := fun o' => hb.cell (p := ⟨wr.heap.size, o', none⟩) lX
        have e2 := fun o' => hb.cell (p := ⟨w1.heap.size, o', none⟩) lM
        rw [e1, e1, e1, e1, e2, e2]
        exact hs0
      have G0 := Lib.hid V0
      have HB0 := Lib.hid hw0
      have HBW := Lib.hid (hbel.trans (hw0.mono (by omega)))
      have HFZ := Lib.hid hfz
      have HRZ := Lib.hid hrz
      have HS0 := Lib.hid hs0
      have HD : Below W.heap.size W W := Below.refl _ _
      clear hwsz V0 hw0 hrz hfz hs0 hbel f0 f1 r0 r1 q0 q1 c0 c1 c2 c3 m0 m1
      go_cut [10, 11] (fun pv ev wx => ∃ (n8 : Nat) (x0 : Int) (so : Option Addr) (sl sc : Nat), pv = .pointer (some ⟨n8, 0, none⟩) ∧ ev = .int .i64 (mulE n (sprI n ⟨kd, at', m, nm⟩) (prodS n f k).1) ∧ W.heap.size ≤ n8 ∧ n8 < wx.heap.size ∧ wx.cell? ⟨n8, 0, none⟩ = some (.int .i64 x0) ∧ wx.cell? ⟨n8, 1, none⟩ = some (.slice so sl sc) ∧ Hid (MRes W.heap.size wx n (mulF n (sprI n ⟨kd, at', m, nm⟩) (prodS n f k).1) (mulE n (sprI n ⟨kd, at', m, nm⟩) (prodS n f k).1) x0 so sl sc) ∧ Below W.heap.size W wx)
      case first =>
        go_region_held3 (fun w' => w'.cell? ⟨wr.heap.size, 0, none⟩ = some (.int .i64 kd) ∧ w'.cell? ⟨wr.heap.size, 1, none⟩ = some (.int .i64 at') ∧ w'.cell? ⟨wr.heap.size, 2, none⟩ = some (.int .i64 m) ∧ w'.cell? ⟨wr.heap.size, 3, none⟩ = some (.string nm) ∧ w'.cell? ⟨w1.heap.size, 0, none⟩ = some (.int .i64 n) ∧ w'.cell? ⟨w1.heap.size, 1, none⟩ = some (.slice (some ⟨g, 0, none⟩) (n * n) cap))
          ((first | (refine G0.out _ ?_; go_grown; done) | go_keep))
          ((first | (go_at_call 51; refine (of_any kd at' m nm _ HK3.out).mono ?_; rintro e wA ⟨⟨og, rfl, hog, hogB⟩, hb⟩; have HD : Below W.heap.size W wA := (Below.trans (by first | exact Below.refl _ _ | go_grown) (hb.mono (by first | omega | (simp; done) | (simp; omega)))); have hzwA := HD.size; (try (refine with_keep2 (n := W.heap.size) hb ?_ ?_ ?_; (refine ⟨?_, ?_, ?_, ?_⟩ <;> go_cell); (focus (first | omega | (simp; done) | (simp; omega))); rintro ⟨_, _, _, _⟩; have hb8 := hb.size; (try simp at hb8))); have HOG := Lib.hid hog; clear hb hog hogB) | (go_at_call 50; refine (placedIn_any n (at' - 1).toNat (ownS ⟨kd, at', m, nm⟩) og _ at' (ownF ⟨kd, at', m, nm⟩) _ h1 hn HIT.out.2.2 HIT.out.1 HIT.out.2.1 ?_).mono ?_; (focus (first | exact HOG.out | exact Numw.keep HOG.out (by go_grown))); rintro e wB ⟨⟨sg, sap, rfl, hsg, hsgB, hsc, hsm⟩, hb⟩; have HD : Below W.heap.size W wB := (Below.trans (by first | exact Below.refl _ _ | go_grown) (hb.mono (by first | omega | (simp; done) | (simp; omega)))); have hzwB := HD.size; (try (refine with_keep2 (n := W.heap.size) hb ?_ ?_ ?_; (refine ⟨?_, ?_, ?_, ?_⟩ <;> go_cell); (focus (first | omega | (simp; done) | (simp; omega))); rintro ⟨_, _, _, _⟩; have hb8 := hb.size; (try simp at hb8))); (try (refine with_keep2 (n := wA.heap.size) hb ?_ ?_ ?_; (refine ⟨?_, ?_, ?_, ?_⟩ <;> go_cell); (focus (first | omega | (simp; done) | (simp; omega))); rintro ⟨_, _, _, _⟩; have hb8 := hb.size; (try simp at hb8))); have HSG := Lib.hid hsg; clear hb hsg hsgB hsc hsm) | (go_at_call 45; refine (rTimes_res n sg g sap cap (sprI n ⟨kd, at', m, nm⟩) (prodS n f k).1 _ h1 hn ?_ ?_ (sprI_vld n _) (prodS_vld n f k)).mono ?_; (focus (first | exact HSG.out.nums | exact (Numw.keep HSG.out (by go_grown)).nums)); (focus (refine (Numw.keep HN1.out ?_).nums; refine HB0.out.trans (Below.mono ?_ (show wr.heap.size ≤ W.heap.size by omega)); first | exact HD | go_grown)); rintro e wC ⟨⟨x0, so, sl, sc, rfl, HRES0⟩, hb⟩; have HD : Below W.heap.size W wC := (Below.trans (by first | exact Below.refl _ _ | go_grown) (hb.mono (by first | omega | (simp; done) | (simp; omega)))); have hzwC := HD.size; (try (refine with_keep2 (n := W.heap.size) hb ?_ ?_ ?_; (refine ⟨?_, ?_, ?_, ?_⟩ <;> go_cell); (focus (first | omega | (simp; done) | (simp; omega))); rintro ⟨_, _, _, _⟩; have hb8 := hb.size; (try simp at hb8))); (try (refine with_keep2 (n := wA.heap.size) hb ?_ ?_ ?_; (refine ⟨?_, ?_, ?_, ?_⟩ <;> go_cell); (focus (first | omega | (simp; done) | (simp; omega))); rintro ⟨_, _, _, _⟩; have hb8 := hb.size; (try simp at hb8))); (try (refine with_keep2 (n := wB.heap.size) hb ?_ ?_ ?_; (refine ⟨?_, ?_, ?_, ?_⟩ <;> go_cell); (focus (first | omega | (simp; done) | (simp; omega))); rintro ⟨_, _, _, _⟩; have hb8 := hb.size; (try simp at hb8))); have HRES := HRES0; clear hb HRES0)))
        all_goals
          go_wp2_with fail
          go_meet
          refine ⟨_, x0, so, sl, sc, rfl, rfl, ?_, ?_, ?_, ?_, ?_, ?_⟩
          · first | omega | (simp; done) | (simp; omega)
          · first | omega | (simp; done) | (simp; omega)
          · go_cell
          · go_cell
          · first
            | exact Lib.hid (MRes.base (MRes.drew (MRes.other (MRes.other HRES.out (by first | omega | (simp; done) | (simp; omega))) (by first | omega | (simp; done) | (simp; omega)))) (by first | omega | (simp; done) | (simp; omega)))
            | exact Lib.hid (MRes.base (MRes.drew (MRes.alloc HRES.out _)) (by first | omega | (simp; done) | (simp; omega)))
          · go_grown
      case rest =>
        obtain ⟨n8, x0, so, sl, sc, rfl, rfl, hn8, hl8, y0, y1, HQ, hD8⟩ := hcut
        have DW := HBW.out.trans (hD8.mono (show w.heap.size ≤ W.heap.size by omega))
        have hszc := hD8.size
        have p0 := (hD8.cell (p := ⟨w1.heap.size, 0, none⟩) lM).trans HS0.out.2.2.2.2.1
        have p1 := (hD8.cell (p := ⟨w1.heap.size, 1, none⟩) lM).trans HS0.out.2.2.2.2.2
        have p2 := (hD8.frozen (p := ⟨w1.heap.size, 0, none⟩) lM).trans HFZ.out.1
        have p3 := (hD8.frozen (p := ⟨w1.heap.size, 1, none⟩) lM).trans HFZ.out.2
        have r0 := (hD8.cell (p := ⟨w.heap.size, 0, none⟩) lR).trans HRZ.out.1
        have r1 := (hD8.cell (p := ⟨w.heap.size, 1, none⟩) lR).trans HRZ.out.2.1
        have r2 := (hD8.frozen (p := ⟨w.heap.size, 0, none⟩) lR).trans HRZ.out.2.2.1
        have r3 := (hD8.frozen (p := ⟨w.heap.size, 1, none⟩) lR).trans HRZ.out.2.2.2
        have n1 : ¬ n8 = w1.heap.size := by omega
        have n2 : ¬ w1.heap.size = w.heap.size := by omega
        have l1 : w1.heap.size < wc.heap.size := by omega
        have l2 : w.heap.size < wc.heap.size := by omega
        obtain ⟨er, hr⟩ : ∃ er, Hid (mulE n (sprI n ⟨kd, at', m, nm⟩) (prodS n f k).1 = er) := ⟨_, rfl⟩
        rw [hr.out] at HQ HST ⊢
        clear hD8 HD
        by_cases her : ¬ er = 0
        · have hb0 : (er == 0) = false := beq_eq_false_iff_ne.2 her
          have hb1 : (er != 0) = true := bne_iff_ne.2 her
          have HNE := Lib.hid her
          clear her p0 p1 p2 p3 y0 y1
          go_wp2_with fail
          refine bodyPost_ret (v := .tuple #[.agg #[.int .i64 0, .slice none 0 0], .int .i64 er]) (by simp [results, Try.results11, go_sem, *]) rfl ⟨?_, by go_grown⟩
          have e1 : (prodS n f (k + 1)).2 = er := by rw [HST.out]
          have hst := prodS_stay (n := n) (f := f) (k := k + 1) (by rw [e1]; exact HNE.out) len (by omega)
          rw [hst]
          exact .inr ⟨by rw [e1]; exact HNE.out, by rw [e1]⟩
        obtain rfl : er = 0 := Decidable.not_not.1 her
        clear her
        obtain ⟨gg, rfl, rfl, rfl, hpg, hpB, hpc, hpm⟩ : ∃ gg, x0 = (n : Int) ∧ so = some ⟨gg, 0, none⟩ ∧ sl = n * n ∧ Numw wc gg (n * n) (mulF n (sprI n ⟨kd, at', m, nm⟩) (prodS n f k).1) ∧ W.heap.size ≤ gg ∧ n * n ≤ sc ∧ sc ≤ 9223372036854775807 := by
          rcases HQ.out with ⟨_, gg, e1, e2, e3, e4, e5, e6, e7⟩ | ⟨e1, _⟩
          · exact ⟨gg, e1, e2, e3, e4, e5, e6, e7⟩
          · exact absurd rfl e1
        have HPG := Lib.hid hpg
        have HPC := Lib.hid (And.intro hpc hpm)
        clear hpg hpc hpm
        go_wp2_with fail
        go_roundw
        case rel => exact ⟨k + 1, gg, sc, by go_num, by omega, Lib.hid (by rw [HST.out]), by go_cell, by go_cell, Lib.hid (by rw [HST.out]; exact (HPG.out.other (by omega)).other (by omega)), by omega, by omega, HPC, by go_cell, by go_cell, by go_cell, by go_cell, by go_cell, by go_cell, by go_grown, by first | omega | (simp; omega)⟩
        case measure => simp [intOf]; omega
    · obtain rfl : k = len := by omega
      go_wp2_with fail
      refine bodyPost_ret (v := .tuple #[.agg #[.int .i64 n, .slice (some ⟨g, 0, none⟩) (n * n) cap], .int .i64 0]) (by simp [results, Try.results11, go_sem, *]) rfl ⟨.inl ⟨HER.out, g, cap, rfl, ?_, by omega, HGC.out.1, HGC.out.2⟩, by go_grown⟩
      exact (HN1.out.other (by omega)).other (by omega)
end Go.Proofs.Ytjodjfllgofkaaa

namespace Go.Proofs.Ytjodjfllgofkaaa
open Go.RowKit Amp
attribute [local go_sem] ix0 ix1 ix2 ix3 jx0 jx1 jx2 jx3
attribute [local go_sem high] run_eqNum run_neNum

set_option maxHeartbeats 2000000 in
theorem rMatrixOf_no (N : Int) (len lap : Nat) (ao : Option Addr) (f : Nat → It) (w : World) (hlen : len ≤ 9223372036854775807) (hc : Its w ao len f) (ha : Hid (¬ askS N len f = 0)) :
    Calls Try.prog 11 #[.int .i64 N, .slice ao len lap] w fun e w' => e = .returned (.tuple #[.agg #[.int .i64 0, .slice none 0 0], .int .i64 (askS N len f)]) ∧ Below w.heap.size w w' := by
  have HC := Lib.hid hc
  obtain ⟨er, hr⟩ : ∃ er, Hid (askS N len f = er) := ⟨_, rfl⟩
  have hne : ¬ er = 0 := by rw [← hr.out]; exact ha.out
  have hb0 : (er == 0) = false := beq_eq_false_iff_ne.2 hne
  have hb1 : (er != 0) = true := bne_iff_ne.2 hne
  clear hc hne
  go_enter Try.func11, Try.ntmps11
  go_wp2_with fail
  refine (asked_any N len lap ao f _ hlen (HC.out.keep (by go_grown))).mono ?_
  rintro e w1 ⟨rfl, hb⟩
  rw [hr.out]
  obtain ⟨ka1, kb1⟩ := bcell hb
  have c1_0_0 : w1.cell? ⟨w.heap.size, 0, none⟩ = some (.int .i64 0) := (ka1 _ _ (by first | omega | (simp; done) | (simp; omega))).trans (by go_cell)
  have f1_0_0 : w1.frozen? ⟨w.heap.size, 0, none⟩ = false := (kb1 _ _ (by first | omega | (simp; done) | (simp; omega))).trans (by go_cell)
  have c1_0_1 : w1.cell? ⟨w.heap.size, 1, none⟩ = some (.slice none 0 0) := (ka1 _ _ (by first | omega | (simp; done) | (simp; omega))).trans (by go_cell)
  have f1_0_1 : w1.frozen? ⟨w.heap.size, 1, none⟩ = false := (kb1 _ _ (by first | omega | (simp; done) | (simp; omega))).trans (by go_cell)
  have D1 : Below w.heap.size w w1 := Below.trans (by go_grown) (hb.mono (by first | omega | (simp; done) | (simp; omega)))
  have s1_0 : w.heap.size < w1.heap.size := by have hs := hb.size; (try simp at hs); omega
  clear hb ka1 kb1
  go_wp2_with fail
  refine bodyPost_ret (v := .tuple #[.agg #[.int .i64 0, .slice none 0 0], .int .i64 er]) (by simp [results, Try.results11, go_sem, *]) rfl ⟨by rw [hr.out], by go_grown⟩

set_option maxHeartbeats 2000000 in
theorem sameNums_yes (ao bo : Option Addr) (n cap cap' : Nat) (f : Nat → Nm) (w : World) (hn : n ≤ 9223372036854775807) (hc : Nums w ao n f) (hd : Nums w bo n f) :
    Calls Try.prog 17 #[.slice ao n cap, .slice bo n cap'] w fun e w' => e = .returned (.bool true) ∧ Below w.heap.size w w' := by
  have HC := Lib.hid hc
  have HD := Lib.hid hd
  clear hc hd
  go_enter Try.func17, Try.ntmps17
  go_wp2_with fail
  go_loopw [5, 13] (fun _ i wr => ∃ k : Nat, i = .int .i64 k ∧ k ≤ n ∧ Below w.heap.size w wr) (fun _ i _ => n - (intOf i).toNat)
  case atStart => exact ⟨0, rfl, Nat.zero_le _, Below.refl _ _⟩
  case round =>
    obtain ⟨k, rfl, hk, hbel⟩ := hrel
    have hsz := hbel.size
    by_cases hlt : k < n
    · obtain ⟨b, o, rfl, hcell⟩ := (Nums.keep HC.out hbel) (by omega)
      obtain ⟨c0, c1, c2, c3, c4⟩ := hcell k hlt
      obtain ⟨b', o', rfl, hcell'⟩ := (Nums.keep HD.out hbel) (by omega)
      obtain ⟨d0, d1, d2, d3, d4⟩ := hcell' k hlt
      have hlt' : (k : Int) < (n : Int) := by omega
      clear hcell hcell'
      go_wp2_with fail
      go_region
      all_goals
        go_wp2_with fail
        go_roundw
        case rel => exact ⟨k + 1, by go_num, by omega, by go_grown⟩
        case measure => simp [intOf]; omega
    · obtain rfl : k = n := by omega
      go_wp2_with fail
      go_returns
      exact ⟨rfl, hbel⟩
set_option maxHeartbeats 2000000 in
theorem sameMatrix_yes (N : Int) (ao bo : Option Addr) (n cap cap' : Nat) (f : Nat → Nm) (w : World) (hn : n ≤ 9223372036854775807) (hc : Nums w ao n f) (hd : Nums w bo n f) :
    Calls Try.prog 12 #[.agg #[.int .i64 N, .slice ao n cap], .agg #[.int .i64 N, .slice bo n cap']] w fun e w' => e = .returned (.bool true) ∧ Below w.heap.size w w' := by
  have HC := Lib.hid hc
  have HD := Lib.hid hd
  clear hc hd
  go_enter Try.func12, Try.ntmps12
  go_wp2_with fail
  refine (sameNums_yes ao bo n cap cap' f _ hn (HC.out.keep (by go_grown)) (HD.out.keep (by go_grown))).mono ?_
  rintro e w1 ⟨rfl, hb⟩
  have D1 : Below w.heap.size w w1 := Below.trans (by go_grown) (hb.mono (by first | omega | (simp; done) | (simp; omega)))
  clear hb
  go_wp2_with fail
  go_returns
  exact ⟨rfl, D1⟩
end Go.Proofs.Ytjodjfllgofkaaa
