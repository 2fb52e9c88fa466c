import Derived.Test.YtjodjfllgofkaaaOw
namespace Amp
theorem divmod_uniq {s i j x y : Nat} (hj : j < s) (hy : y < s) (h : x * s + y = i * s + j) : x = i ∧ y = j := by
  have h1 : (x * s + y) / s = x := by rw [Nat.mul_comm, Nat.mul_add_div (by omega), Nat.div_eq_of_lt hy, Nat.add_zero]
  have h2 : (i * s + j) / s = i := by rw [Nat.mul_comm, Nat.mul_add_div (by omega), Nat.div_eq_of_lt hj, Nat.add_zero]
  have e : x = i := by rw [← h1, h, h2]
  subst e
  exact ⟨rfl, by omega⟩
theorem divmod_at {n i j : Nat} (hj : j < n) : (i * n + j) / n = i ∧ (i * n + j) % n = j := by
  rw [Nat.mul_comm i n, Nat.mul_add_div (by omega), Nat.div_eq_of_lt hj, Nat.add_zero, Nat.mul_add_mod, Nat.mod_eq_of_lt hj]
  exact ⟨rfl, rfl⟩
/-- The identity of n rows in which the first lim elements of a matrix of s rows stand, from row and column a on. -/
def sprG (n a s : Nat) (sm : Nat → Nm) (lim k : Nat) : Nm :=
  if a ≤ k / n ∧ k / n < a + s ∧ a ≤ k % n ∧ k % n < a + s ∧ (k / n - a) * s + (k % n - a) < lim then sm ((k / n - a) * s + (k % n - a)) else idF n k
theorem sprG_zero (n a s : Nat) (sm : Nat → Nm) : sprG n a s sm 0 = idF n := by
  funext k
  unfold sprG
  rw [if_neg (by omega)]
theorem sprG_step {n a s i j : Nat} (sm : Nat → Nm) (hi : i < s) (hj : j < s) (has : a + s ≤ n) : updN (sprG n a s sm (i * s + j)) ((a + i) * n + a + j) (sm (i * s + j)) = sprG n a s sm (i * s + j + 1) := by
  funext k
  have hd := divmod_at (n := n) (i := a + i) (j := a + j) (by omega)
  by_cases e : k = (a + i) * n + a + j
  · subst e
    rw [updN_at]
    unfold sprG
    rw [Nat.add_assoc ((a + i) * n), hd.1, hd.2, Nat.add_sub_cancel_left, Nat.add_sub_cancel_left, if_pos (by omega)]
  · rw [updN_ne _ _ e]
    have hk : k = k / n * n + k % n := by rw [Nat.mul_comm]; exact (Nat.div_add_mod k n).symm
    unfold sprG
    by_cases hc : a ≤ k / n ∧ k / n < a + s ∧ a ≤ k % n ∧ k % n < a + s
    · obtain ⟨h1, h2, h3, h4⟩ := hc
      have hne : ¬ (k / n - a) * s + (k % n - a) = i * s + j := fun hh => by
        obtain ⟨q1, q2⟩ := divmod_uniq hj (by omega) hh
        apply e
        rw [hk, show k / n = a + i by omega, show k % n = a + j by omega, Nat.add_assoc]
      by_cases hl : (k / n - a) * s + (k % n - a) < i * s + j
      · rw [if_pos ⟨h1, h2, h3, h4, hl⟩, if_pos ⟨h1, h2, h3, h4, by omega⟩]
      · rw [if_neg (fun hh => hl hh.2.2.2.2), if_neg (fun hh => by have := hh.2.2.2.2; omega)]
    · rw [if_neg (fun hh => hc ⟨hh.1, hh.2.1, hh.2.2.1, hh.2.2.2.1⟩), if_neg (fun hh => hc ⟨hh.1, hh.2.1, hh.2.2.1, hh.2.2.2.1⟩)]
end Amp
namespace Go.Proofs.Ytjodjfllgofkaaa
open Go.RowKit Amp
attribute [local go_sem] ix0 ix1 ix2 ix3 jx0 jx1 jx2 jx3
attribute [local go_sem high] run_eqNum run_neNum

/-- A matrix alone, in a block of the call's own. -/
def MatV (B : Nat) (w : World) (e : Ending) (n : Nat) (f : Nat → Nm) : Prop :=
  ∃ g cap, e = .returned (.agg #[.int .i64 n, .slice (some ⟨g, 0, none⟩) (n * n) cap]) ∧ Numw w g (n * n) f ∧ B ≤ g ∧ n * n ≤ cap ∧ cap ≤ 9223372036854775807
def SprF (w w1 : World) (g h n s cap hcap : Nat) (wr : World) : Prop := wr.cell? ⟨w.heap.size, 0, none⟩ = some (.int .i64 s) ∧ wr.cell? ⟨w.heap.size, 1, none⟩ = some (.slice (some ⟨h, 0, none⟩) (s * s) hcap) ∧ wr.cell? ⟨w1.heap.size, 0, none⟩ = some (.int .i64 n) ∧ wr.cell? ⟨w1.heap.size, 1, none⟩ = some (.slice (some ⟨g, 0, none⟩) (n * n) cap) ∧ wr.cell? ⟨w.heap.size + 1, 0, none⟩ = some (.int .i64 0) ∧ wr.cell? ⟨w.heap.size + 1, 1, none⟩ = some (.slice none 0 0) ∧ wr.frozen? ⟨w.heap.size + 1, 0, none⟩ = false ∧ wr.frozen? ⟨w.heap.size + 1, 1, none⟩ = false ∧ wr.heap.size = w1.heap.size + 1

set_option maxRecDepth 100000 in
set_option maxHeartbeats 4000000 in
theorem spread_any (n a s h hcap : Nat) (t : Int) (sm : Nat → Nm) (w : World) (h1 : 0 < n) (hn : n ≤ 6) (hs : 0 < s) (has : a + s ≤ n) (ht : t = (a : Int) + 1) (hsm : Numw w h (s * s) sm) :
    Calls Try.prog 55 #[.int .i64 n, .int .i64 t, .agg #[.int .i64 s, .slice (some ⟨h, 0, none⟩) (s * s) hcap]] w fun e w' => MatV w.heap.size w' e n (sprG n a s sm (s * s)) ∧ Below w.heap.size w w' := by
  have HSM := Lib.hid hsm
  have HT := Lib.hid ht
  have lh : h < w.heap.size := World.block_lt_of_cell? w _ (hsm 0 (Nat.mul_pos hs hs)).1.1
  have hs6 : (s : Int) ≤ 6 := by omega
  clear hsm ht
  go_enter Try.func55, Try.ntmps55
  go_wp2_with fail
  refine (mIdentityW n _ h1 hn).mono ?_
  rintro e w1 ⟨⟨g, cap, rfl, hnu, hg1, hg2, hg3⟩, hb⟩
  have HN := Lib.hid hnu
  have HG := Lib.hid (And.intro hg2 hg3)
  have hg4 : w.heap.size + 1 < g := by first | omega | (simp at hg1; omega)
  have hg6 : g < w1.heap.size := World.block_lt_of_cell? w1 _ (hnu 0 (Nat.mul_pos h1 h1)).1.1
  clear hnu hg1 hg2 hg3
  obtain ⟨ka1, kb1⟩ := bcell hb
  have c1_0_0 : w1.cell? ⟨w.heap.size, 0, none⟩ = some (.int .i64 s) := (ka1 _ _ (by first | omega | (simp; done) | (simp; omega))).trans (by go_cell)
  have c1_0_1 : w1.cell? ⟨w.heap.size, 1, none⟩ = some (.slice (some ⟨h, 0, none⟩) (s * s) hcap) := (ka1 _ _ (by first | omega | (simp; done) | (simp; omega))).trans (by go_cell)
  have c1_1_0 : w1.cell? ⟨w.heap.size + 1, 0, none⟩ = some (.int .i64 0) := (ka1 _ _ (by first | omega | (simp; done) | (simp; omega))).trans (by go_cell)
  have f1_1_0 : w1.frozen? ⟨w.heap.size + 1, 0, none⟩ = false := (kb1 _ _ (by first | omega | (simp; done) | (simp; omega))).trans (by go_cell)
  have c1_1_1 : w1.cell? ⟨w.heap.size + 1, 1, none⟩ = some (.slice none 0 0) := (ka1 _ _ (by first | omega | (simp; done) | (simp; omega))).trans (by go_cell)
  have f1_1_1 : w1.frozen? ⟨w.heap.size + 1, 1, none⟩ = false := (kb1 _ _ (by first | omega | (simp; done) | (simp; omega))).trans (by go_cell)
  have D1 : Below w.heap.size w w1 := Below.trans (by go_grown) (hb.mono (by first | omega | (simp; done) | (simp; omega)))
  have s1_0 : w.heap.size < w1.heap.size := by have hs := hb.size; (try simp at hs); omega
  have s1_1 : w.heap.size + 1 < w1.heap.size := by have hs := hb.size; (try simp at hs); omega
  clear hb ka1 kb1
  go_wp2_with fail
  go_loopw [9, 10, 18, 23] (fun _ _ iv _ wr => ∃ (i : Nat), iv = .int .i64 i ∧ i ≤ s ∧ Numw wr g (n * n) (sprG n a s sm (i * s)) ∧ SprF w w1 g h n s cap hcap wr ∧ Below w.heap.size w wr) (fun _ _ iv _ _ => s - (intOf iv).toNat)
  case atStart => exact ⟨0, rfl, by omega, by rw [Nat.zero_mul, sprG_zero]; exact HN.out.alloc _, ⟨by go_cell, by go_cell, by go_cell, by go_cell, by go_cell, by go_cell, by go_cell, by go_cell, by simp⟩, by go_grown⟩
  case round =>
    obtain ⟨i, rfl, hi, hnu, hfr, hbel⟩ := hrel
    have HN1 := Lib.hid hnu
    have HF1 := Lib.hid hfr
    have HB1 := Lib.hid hbel
    clear hnu hfr hbel
    obtain ⟨wo, rfl⟩ : ∃ wo : World, wo = wr := ⟨_, rfl⟩
    by_cases hlt : i < s
    · have hlt' : (i : Int) < (s : Int) := by omega
      obtain ⟨a0, a1, a2, a3, a4, a5, a6, a7, a8⟩ := HF1.out
      have HA8 := Lib.hid a8
      clear a8
      go_wp2_with fail
      go_loopw [10, 23] (fun _ jv wr => ∃ (j : Nat), jv = .int .i64 j ∧ j ≤ s ∧ Numw wr g (n * n) (sprG n a s sm (i * s + j)) ∧ SprF w w1 g h n s cap hcap wr ∧ Below w.heap.size w wr) (fun _ jv _ => s - (intOf jv).toNat)
      case atStart => exact ⟨0, rfl, by omega, HN1.out, HF1.out, HB1.out⟩
      case round =>
        clear a0 a1 a2 a3 a4 a5 a6 a7
        obtain ⟨j, rfl, hj, hnu, hfr, hbel⟩ := hrel
        by_cases hjt : j < s
        · have hjt' : (j : Int) < (s : Int) := by omega
          obtain ⟨r, hr⟩ : ∃ r, Hid (a + i = r) := ⟨_, rfl⟩
          obtain ⟨p, hp⟩ : ∃ p, Hid (r * n = p) := ⟨_, rfl⟩
          obtain ⟨q, hq⟩ : ∃ q, Hid (p + a = q) := ⟨_, rfl⟩
          obtain ⟨m, hm⟩ : ∃ m, Hid (q + j = m) := ⟨_, rfl⟩
          obtain ⟨c, hc⟩ : ∃ c, Hid (i * s = c) := ⟨_, rfl⟩
          obtain ⟨d, hd⟩ : ∃ d, Hid (c + j = d) := ⟨_, rfl⟩
          obtain ⟨U, hU⟩ : ∃ U : Int, Hid ((p : Int) + t = U) := ⟨_, rfl⟩
          have hrn : r + 1 ≤ n := by have := hr.out; omega
          have hmn : m < n * n := by
            have e1 : (r + 1) * n ≤ n * n := Nat.mul_le_mul_right n hrn
            rw [Nat.succ_mul, hp.out] at e1
            have := hq.out; have := hm.out; have := hr.out
            omega
          have hds : d < s * s := by
            have e1 : (i + 1) * s ≤ s * s := Nat.mul_le_mul_right s (by omega)
            rw [Nat.succ_mul, hc.out] at e1
            have := hd.out
            omega
          have h36 : n * n ≤ 36 := Nat.mul_le_mul hn hn
          have hs36 : s * s ≤ 36 := Nat.mul_le_mul (show s ≤ 6 by omega) (show s ≤ 6 by omega)
          have hp36 : p ≤ 36 := by
            have e1 : r * n ≤ n * n := Nat.mul_le_mul_right n (by omega)
            rw [hp.out] at e1; omega
          have hc36 : c ≤ 36 := by
            have e1 : i * s ≤ s * s := Nat.mul_le_mul_right s (by omega)
            rw [hc.out] at e1; omega
          have HM : Hid ((a + i) * n + a + j = m ∧ i * s + j = d) := Lib.hid ⟨by rw [hr.out, hp.out, hq.out, hm.out], by rw [hc.out, hd.out]⟩
          obtain ⟨x0, x1, x2, x3, x4, xe, HX⟩ := res5 (sm d, 0)
          have HZ : Hid (sm d = ⟨⟨x0, x1, x2, x3⟩, x4⟩) := Lib.hid (congrArg Prod.fst HX.out)
          have hsz := (HSM.out d hds).1.keep hbel lh
          rw [HZ.out] at hsz
          obtain ⟨c0, c1, c2, c3, c4⟩ := hsz
          obtain ⟨⟨b0, b1, b2, b3, b4⟩, f0, f1, f2, f3, f4⟩ := hnu m hmn
          obtain ⟨a0, a1, a2, a3, a4, a5, a6, a7, a8⟩ := hfr
          have n1 : ¬ g = w.heap.size := by omega
          have n2 : ¬ g = w1.heap.size := by omega
          have n3 : ¬ g = h := by omega
          have n4 : ¬ g = w.heap.size + 1 := by omega
          have m0 : (0 : Int) ≤ (m : Int) := by omega
          have m1 : (m : Int) < ((n * n : Nat) : Int) := by omega
          have m2 : (m : Int) < (n : Int) * (n : Int) := by rw [← Int.natCast_mul]; omega
          have d0 : (0 : Int) ≤ (d : Int) := by omega
          have d1 : (d : Int) < ((s * s : Nat) : Int) := by omega
          have d2 : (d : Int) < (s : Int) * (s : Int) := by rw [← Int.natCast_mul]; omega
          have HN2 := Lib.hid hnu
          have HF2 := Lib.hid (show SprF w w1 g h n s cap hcap wr from ⟨a0, a1, a2, a3, a4, a5, a6, a7, a8⟩)
          have HB2 := Lib.hid hbel
          have hw1 : IntKind.i64.wrap (t - 1) = (a : Int) := by rw [HT.out, Int.add_sub_cancel]; exact IntWalk.i64_in _ (by omega)
          have hw2 : IntKind.i64.wrap ((a : Int) + (i : Int)) = (r : Int) := by rw [← hr.out, Int.natCast_add]; exact IntWalk.i64_in _ (by omega)
          have hw3 : IntKind.i64.wrap ((r : Int) * (n : Int)) = (p : Int) := by rw [← Int.natCast_mul, hp.out]; exact IntWalk.i64_in _ (by omega)
          have hw4 : IntKind.i64.wrap ((p : Int) + t) = U := by rw [hU.out]; exact IntWalk.i64_in _ (by have := hU.out; have := HT.out; omega)
          have hw5 : IntKind.i64.wrap (U - 1) = (q : Int) := by rw [show U - 1 = (q : Int) by have := hU.out; have := HT.out; have := hq.out; omega]; exact IntWalk.i64_in _ (by have := hq.out; omega)
          have hw6 : IntKind.i64.wrap ((q : Int) + (j : Int)) = (m : Int) := by rw [← hm.out, Int.natCast_add]; exact IntWalk.i64_in _ (by have := hq.out; omega)
          have hw7 : IntKind.i64.wrap ((i : Int) * (s : Int)) = (c : Int) := by rw [← Int.natCast_mul, hc.out]; exact IntWalk.i64_in _ (by omega)
          have hw8 : IntKind.i64.wrap ((c : Int) + (j : Int)) = (d : Int) := by rw [← hd.out, Int.natCast_add]; exact IntWalk.i64_in _ (by omega)
          have HA8 := Lib.hid a8
          clear hnu hbel a8 h36 hs36 hp36 hc36 hrn
          have HE : Hid (updN (sprG n a s sm (i * s + j)) m ⟨⟨x0, x1, x2, x3⟩, x4⟩ = sprG n a s sm (i * s + (j + 1))) := Lib.hid (by rw [← HZ.out, ← HM.out.2, ← HM.out.1]; exact sprG_step sm hlt hjt has)
          go_upto_region 8 with fail
          go_region_held3 (fun w' => w'.cell? ⟨w.heap.size, 0, none⟩ = some (.int .i64 s) ∧ w'.cell? ⟨w.heap.size, 1, none⟩ = some (.slice (some ⟨h, 0, none⟩) (s * s) hcap) ∧ w'.cell? ⟨w1.heap.size, 1, none⟩ = some (.slice (some ⟨g, 0, none⟩) (n * n) cap) ∧ w'.cell? ⟨h, d * 5, none⟩ = some (.int .i64 x0) ∧ w'.cell? ⟨h, d * 5 + 1, none⟩ = some (.int .i64 x1) ∧ w'.cell? ⟨h, d * 5 + 2, none⟩ = some (.int .i64 x2) ∧ w'.cell? ⟨h, d * 5 + 3, none⟩ = some (.int .i64 x3) ∧ w'.cell? ⟨h, d * 5 + 4, none⟩ = some (.int .i64 x4)) (go_keep) (fail)
          clear hw1 hw2 hw3 hw4 hw5 hw6 hw7 hw8
          go_wp2_with fail
          go_roundw
          case rel =>
            refine ⟨j + 1, by go_num, by omega, ?_, ⟨?_, ?_, ?_, ?_, ?_, ?_, ?_, ?_, ?_⟩, ?_⟩
            · rw [← HE.out]; exact (HN2.out.store hmn x0 x1 x2 x3 x4).drew
            · go_cell
            · go_cell
            · go_cell
            · go_cell
            · go_cell
            · go_cell
            · go_cell
            · go_cell
            · simpa using HA8.out
            · have hbel := HB2.out
              have hg5 : w.heap.size ≤ g := by omega
              go_grown
          case measure => simp [intOf]; omega
        · obtain rfl : j = s := by omega
          have HN2 := Lib.hid hnu
          have HF2 := Lib.hid hfr
          have HB2 := Lib.hid hbel
          clear hnu hfr hbel
          go_wp2_with fail
          go_roundw
          case rel => exact ⟨i + 1, by go_num, by omega, by rw [Nat.succ_mul]; exact HN2.out, HF2.out, HB2.out⟩
          case measure => simp [intOf]; omega
    · obtain rfl : i = s := by omega
      obtain ⟨a0, a1, a2, a3, a4, a5, a6, a7, a8⟩ := HF1.out
      have s1 : w.heap.size + 1 < wo.heap.size := by omega
      have n4 : ¬ w.heap.size + 1 = g := by omega
      have hbel := HB1.out
      have HA8 := Lib.hid a8
      clear a8
      go_wp2_with fail
      refine bodyPost_ret (v := .agg #[.int .i64 n, .slice (some ⟨g, 0, none⟩) (n * n) cap]) (by simp [results, Try.results55, go_sem, *]) rfl ⟨⟨g, cap, rfl, ?_, by omega, HG.out.1, HG.out.2⟩, by go_grown⟩
      exact (HN1.out.other n4).other n4
end Go.Proofs.Ytjodjfllgofkaaa
