import Derived.Test.YtdhlikedjephmaaHf
import Derived.Deep.RegionHeld2
import Derived.Deep.DeepCutAuto
namespace Go.Proofs.Ytdhlikedjephmaa
open Go.RowKit Heat

set_option maxRecDepth 100000 in
set_option maxHeartbeats 4000000 in
theorem rRatio_any (n d : Int) (w : World) (hn : n.natAbs ≤ 1000000000000000000) (hd : d.natAbs ≤ 1000000000000000000) (h0 : ¬ d = 0) :
    Calls Try.prog 76 #[.int .i64 n, .int .i64 d] w fun e w' => e = .returned (.agg #[.int .i64 (ratN n d), .int .i64 (ratD n d)]) ∧ Below w.heap.size w w' := by
  by_cases hneg : d < 0
  · obtain ⟨g, hg, g0, gn, gd, bn, bd⟩ := gcd_facts (N := -n) (D := -d) (by omega)
    have HE : Hid (ratN n d = (-n) / (g : Int) ∧ ratD n d = (-d) / (g : Int)) := Lib.hid (by unfold ratN ratD; rw [if_pos hneg, if_pos hneg]; rw [show Int.gcd n d = g from by rw [← hg]; simp [Int.gcd]]; exact ⟨rfl, rfl⟩)
    rw [HE.out.1, HE.out.2]
    have w1 : wrap64 (-n) = -n := by simp only [wrap64]; omega
    have w2 : wrap64 (-d) = -d := by simp only [wrap64]; omega
    have gz : ¬ (g : Int) = 0 := by omega
    have gnat : ¬ g = 0 := by omega
    have gm : ¬ (g : Int) = -1 := by omega
    have gb : ((g : Int) == 0) = false := beq_eq_false_iff_ne.2 gz
    obtain ⟨p, hp⟩ : ∃ p, (-n) / (g : Int) = p := ⟨_, rfl⟩
    obtain ⟨q, hq⟩ : ∃ q, (-d) / (g : Int) = q := ⟨_, rfl⟩
    rw [hp] at gn bn
    rw [hq] at gd bd
    rw [hp, hq]
    have wp : wrap64 p = p := by simp only [wrap64]; omega
    have wq : wrap64 q = q := by simp only [wrap64]; omega
    have wp' : IntKind.i64.wrap p = p := by go_arith
    have wq' : IntKind.i64.wrap q = q := by go_arith
    have HS : Hid (∀ w : World, Calls Try.prog 58 #[.int .i64 (-n)] w fun e w' => e = .returned (.int .i64 (absI (-n))) ∧ Below w.heap.size w w') := Lib.hid (fun w => rAbs_any (-n) w (by omega) (by omega))
    obtain ⟨a, ha⟩ : ∃ a : Nat, (-n).natAbs = a := ⟨_, rfl⟩
    obtain ⟨b, hb'⟩ : ∃ b : Nat, (-d).natAbs = b := ⟨_, rfl⟩
    have HA : Hid (absI (-n) = a ∧ (-d) = b) := Lib.hid ⟨by unfold absI; omega, by omega⟩
    have HG : Hid (Nat.gcd a b = g) := Lib.hid (by rw [← ha, ← hb']; exact hg)
    have la : a ≤ 1000000000000000000 := by omega
    have lb : b ≤ 1000000000000000000 := by omega
    clear hg g0 bn bd hp hq HE hn hd h0 ha hb'
    go_enter Try.func76, Try.ntmps76
    go_wp2_with fail
    refine (HS.out _).mono ?_
    rw [HA.out.1]
    rintro e w1 ⟨rfl, hb⟩
    have D1 : Below w.heap.size w w1 := Below.trans (by go_grown) (hb.mono (by first | omega | (simp; done) | (simp; omega)))
    have s1 : w.heap.size < w1.heap.size := by have hs := hb.size; (try simp at hs); omega
    have c0 := (hb.cell (p := ⟨w.heap.size, 0, none⟩) (by simp)).trans (by go_cell : _ = some (.int .i64 0))
    have f0 := (hb.frozen (p := ⟨w.heap.size, 0, none⟩) (by simp)).trans (by go_cell : _ = false)
    have c1 := (hb.cell (p := ⟨w.heap.size, 1, none⟩) (by simp)).trans (by go_cell : _ = some (.int .i64 0))
    have f1 := (hb.frozen (p := ⟨w.heap.size, 1, none⟩) (by simp)).trans (by go_cell : _ = false)
    clear hb
    go_wp2_with fail
    go_loopw [5, 6] (fun av bv wr => ∃ x y : Nat, av = .int .i64 x ∧ bv = .int .i64 y ∧ x ≤ 1000000000000000000 ∧ y ≤ 1000000000000000000 ∧ Hid (Nat.gcd x y = g) ∧ Hid (Below w.heap.size w wr) ∧ w.heap.size < wr.heap.size ∧ wr.cell? ⟨w.heap.size, 0, none⟩ = some (.int .i64 0) ∧ wr.cell? ⟨w.heap.size, 1, none⟩ = some (.int .i64 0) ∧ wr.frozen? ⟨w.heap.size, 0, none⟩ = false ∧ wr.frozen? ⟨w.heap.size, 1, none⟩ = false) (fun _ bv _ => (intOf bv).toNat)
    case atStart => exact ⟨a, b, rfl, by first | rfl | rw [HA.out.2], la, lb, HG, Lib.hid D1, s1, c0, c1, f0, f1⟩
    case round =>
      obtain ⟨x, y, rfl, rfl, hx, hy, HGG, HB, hs, e0, e1, z0, z1⟩ := hrel
      have hB := HB.out
      by_cases hy0 : 0 < y
      · have t1 : (0 : Int) < (y : Int) := by omega
        have y0 : ¬ (y : Int) = 0 := by omega
        have y1 : ¬ y = 0 := by omega
        have y2 : ¬ (y : Int) = -1 := by omega
        have hlt : x % y < y := Nat.mod_lt _ hy0
        have wt : (x : Int).tmod (y : Int) = ((x % y : Nat) : Int) := by
          rw [Int.tmod_eq_emod_of_nonneg (by omega)]
          exact (Int.natCast_emod x y).symm
        have ww : IntKind.i64.wrap ((x % y : Nat) : Int) = ((x % y : Nat) : Int) := by
          have : x % y ≤ 1000000000000000000 := by omega
          generalize x % y = r at *
          go_arith
        have HN : Hid (Nat.gcd y (x % y) = g) := Lib.hid (by rw [← HGG.out, Nat.gcd_comm x y, Nat.gcd_rec y x, Nat.gcd_comm])
        go_upto_region 5 with fail
        refine wp_region_held_drew (S := fun _ => True) (by kernel_rfl) trivial (fun hHeld => ?_)
        refine wpAnyH_take (i := 0) (oi := _) (v := ?_) rfl (by kernel_rfl) (by kernel_rfl) (by kernel_rfl) (fun _ _ _ h => h) (Or.inl ⟨by rfl, ?_⟩) (by assumption) ?_
        rotate_left
        · intro w hSw; go_simp; (try with_reducible rfl)
        try change wpAnyH _ _ _ _ _ _ _ (Act.put _ (some 18) _) _
        try simp only [act_all]
        refine wpAnyH_take (i := 1) (oi := _) (v := ?_) rfl (by kernel_rfl) (by kernel_rfl) (by kernel_rfl) (fun _ _ _ h => h) (Or.inl ⟨by rfl, ?_⟩) (by assumption) ?_
        rotate_left
        · intro w hSw; go_simp; (try with_reducible rfl)
        try change wpAnyH _ _ _ _ _ _ _ (Act.put _ (some 19) _) _
        try simp only [act_all]
        refine wpAnyH_take (i := 2) (oi := _) (v := ?_) rfl (by kernel_rfl) (by kernel_rfl) (by kernel_rfl) (fun _ _ _ h => h) (Or.inl ⟨by rfl, ?_⟩) (by assumption) ?_
        rotate_left
        · intro w hSw; go_simp; (try with_reducible rfl)
        try change wpAnyH _ _ _ _ _ _ _ (Act.put _ (some 20) _) _
        try simp only [act_all]
        refine wpAnyH_take (i := 3) (oi := _) (v := ?_) rfl (by kernel_rfl) (by kernel_rfl) (by kernel_rfl) (fun _ _ _ h => h) (Or.inl ⟨by rfl, ?_⟩) (by assumption) ?_
        rotate_left
        · intro w hSw; go_simp; (try with_reducible rfl)
        try change wpAnyH _ _ _ _ _ _ _ (Act.put _ (some 21) _) _
        try simp only [act_all]
        refine wpAnyH_take (i := 4) (oi := _) (v := ?_) rfl (by kernel_rfl) (by kernel_rfl) (by kernel_rfl) (fun _ _ _ h => h) (Or.inl ⟨by rfl, ?_⟩) (by assumption) ?_
        rotate_left
        · intro w hSw; go_simp; (try with_reducible rfl)
        try change wpAnyH _ _ _ _ _ _ _ (Act.put _ (some 5) _) _
        try simp only [act_all]
        refine wpAnyH_take (i := 5) (oi := _) (v := ?_) rfl (by kernel_rfl) (by kernel_rfl) (by kernel_rfl) (fun _ _ _ h => h) (Or.inl ⟨by rfl, ?_⟩) (by assumption) ?_
        rotate_left
        · intro w hSw; go_simp; (try with_reducible rfl)
        try change wpAnyH _ _ _ _ _ _ _ (Act.put _ (some 6) _) _
        try simp only [act_all]
        refine wpAnyH_done (by kernel_rfl) ?_ _
        go_wp2_with fail
        go_roundw
        case rel => exact ⟨y, x % y, rfl, by first | rfl | rw [Int.natCast_emod] | (simp; done), hy, by omega, HN, Lib.hid (by go_grown), by first | assumption | simpa using hs, by go_cell, by go_cell, by go_cell, by go_cell⟩
        case measure => first | (simp [intOf]; done) | (simp [intOf, wt, ww]; omega) | (simp [intOf]; omega)
      · obtain rfl : y = 0 := by omega
        obtain rfl : x = g := by have := HGG.out; rwa [Nat.gcd_zero_right] at this
        go_upto_region 6 with fail
        refine wp_region_held_drew (S := fun _ => True) (by kernel_rfl) trivial (fun hHeld => ?_)
        refine wpAnyH_take (i := 0) (oi := _) (v := ?_) rfl (by kernel_rfl) (by kernel_rfl) (by kernel_rfl) (fun _ _ _ h => h) (Or.inl ⟨by rfl, ?_⟩) (by assumption) ?_
        rotate_left
        · intro w hSw; go_simp; (try with_reducible rfl)
        try change wpAnyH _ _ _ _ _ _ _ (Act.put _ (some 22) _) _
        try simp only [act_all]
        refine wpAnyH_take (i := 1) (oi := _) (v := ?_) rfl (by kernel_rfl) (by kernel_rfl) (by kernel_rfl) (fun _ _ _ h => h) (Or.inl ⟨by rfl, ?_⟩) (by assumption) ?_
        rotate_left
        · intro w hSw; go_simp; (try with_reducible rfl)
        try change wpAnyH _ _ _ _ _ _ _ (Act.put _ (some 23) _) _
        try simp only [act_all]
        refine wpAnyH_take (i := 2) (oi := _) (v := ?_) rfl (by kernel_rfl) (by kernel_rfl) (by kernel_rfl) (fun _ _ _ h => h) (Or.inl ⟨by rfl, ?_⟩) (by assumption) ?_
        rotate_left
        · intro w hSw; go_simp; (try with_reducible rfl)
        try change wpAnyH _ _ _ _ _ _ _ (Act.put _ (some 24) _) _
        try simp only [act_all]
        refine wpAnyH_take (i := 3) (oi := _) (v := ?_) rfl (by kernel_rfl) (by kernel_rfl) (by kernel_rfl) (fun _ _ _ h => h) (Or.inl ⟨by rfl, ?_⟩) (by assumption) ?_
        rotate_left
        · intro w hSw; go_simp; (try with_reducible rfl)
        try change wpAnyH _ _ _ _ _ _ _ (Act.put _ (some 25) _) _
        try simp only [act_all]
        refine wpAnyH_take (i := 4) (oi := _) (v := ?_) rfl (by kernel_rfl) (by kernel_rfl) (by kernel_rfl) (fun _ _ _ h => h) (Or.inl ⟨by rfl, ?_⟩) (by assumption) ?_
        rotate_left
        · intro w hSw; go_simp; (try with_reducible rfl)
        try change wpAnyH _ _ _ _ _ _ _ (Act.put _ (some 26) _) _
        try simp only [act_all]
        refine wpAnyH_take (i := 5) (oi := _) (v := ?_) rfl (by kernel_rfl) (by kernel_rfl) (by kernel_rfl) (fun _ _ _ h => h) (Or.inl ⟨by rfl, ?_⟩) (by assumption) ?_
        rotate_left
        · intro w hSw; go_simp; (try with_reducible rfl)
        try change wpAnyH _ _ _ _ _ _ _ (Act.put _ (some 27) _) _
        try simp only [act_all]
        refine wpAnyH_take (i := 6) (oi := _) (v := ?_) rfl (by kernel_rfl) (by kernel_rfl) (by kernel_rfl) (fun _ _ _ h => h) (Or.inl ⟨by rfl, ?_⟩) (by assumption) ?_
        rotate_left
        · intro w hSw; go_simp; (try with_reducible rfl)
        try change wpAnyH _ _ _ _ _ _ _ (Act.put _ (some 28) _) _
        try simp only [act_all]
        refine wpAnyH_ready (rs := [7]) (by kernel_rfl) (by simp) ?_
        refine AllReadyH.cons (o := _) rfl (fun K hK => ?_) AllReadyH.nil
        go_simp
        refine hK.out _ _ trivial (fun hHeld => ?_)
        clear hK K
        try simp only [act_all]
        refine wpAnyH_done (by kernel_rfl) ?_ _
        go_wp2_with fail
        refine bodyPost_ret (v := .agg #[.int .i64 p, .int .i64 q]) (by simp [results, Try.results76, go_sem, *]) rfl ⟨rfl, by go_grown⟩
  · obtain ⟨g, hg, g0, gn, gd, bn, bd⟩ := gcd_facts (N := n) (D := d) (by omega)
    have HE : Hid (ratN n d = (n) / (g : Int) ∧ ratD n d = (d) / (g : Int)) := Lib.hid (by unfold ratN ratD; rw [if_neg hneg, if_neg hneg]; rw [show Int.gcd n d = g from by rw [← hg]; rfl]; exact ⟨rfl, rfl⟩)
    rw [HE.out.1, HE.out.2]
    have gz : ¬ (g : Int) = 0 := by omega
    have gnat : ¬ g = 0 := by omega
    have gm : ¬ (g : Int) = -1 := by omega
    have gb : ((g : Int) == 0) = false := beq_eq_false_iff_ne.2 gz
    obtain ⟨p, hp⟩ : ∃ p, (n) / (g : Int) = p := ⟨_, rfl⟩
    obtain ⟨q, hq⟩ : ∃ q, (d) / (g : Int) = q := ⟨_, rfl⟩
    rw [hp] at gn bn
    rw [hq] at gd bd
    rw [hp, hq]
    have wp : wrap64 p = p := by simp only [wrap64]; omega
    have wq : wrap64 q = q := by simp only [wrap64]; omega
    have wp' : IntKind.i64.wrap p = p := by go_arith
    have wq' : IntKind.i64.wrap q = q := by go_arith
    have HS : Hid (∀ w : World, Calls Try.prog 58 #[.int .i64 (n)] w fun e w' => e = .returned (.int .i64 (absI (n))) ∧ Below w.heap.size w w') := Lib.hid (fun w => rAbs_any (n) w (by omega) (by omega))
    obtain ⟨a, ha⟩ : ∃ a : Nat, (n).natAbs = a := ⟨_, rfl⟩
    obtain ⟨b, hb'⟩ : ∃ b : Nat, (d).natAbs = b := ⟨_, rfl⟩
    have HA : Hid (absI (n) = a ∧ (d) = b) := Lib.hid ⟨by unfold absI; omega, by omega⟩
    have HG : Hid (Nat.gcd a b = g) := Lib.hid (by rw [← ha, ← hb']; exact hg)
    have la : a ≤ 1000000000000000000 := by omega
    have lb : b ≤ 1000000000000000000 := by omega
    clear hg g0 bn bd hp hq HE hn hd h0 ha hb'
    go_enter Try.func76, Try.ntmps76
    go_wp2_with fail
    refine (HS.out _).mono ?_
    rw [HA.out.1]
    rintro e w1 ⟨rfl, hb⟩
    have D1 : Below w.heap.size w w1 := Below.trans (by go_grown) (hb.mono (by first | omega | (simp; done) | (simp; omega)))
    have s1 : w.heap.size < w1.heap.size := by have hs := hb.size; (try simp at hs); omega
    have c0 := (hb.cell (p := ⟨w.heap.size, 0, none⟩) (by simp)).trans (by go_cell : _ = some (.int .i64 0))
    have f0 := (hb.frozen (p := ⟨w.heap.size, 0, none⟩) (by simp)).trans (by go_cell : _ = false)
    have c1 := (hb.cell (p := ⟨w.heap.size, 1, none⟩) (by simp)).trans (by go_cell : _ = some (.int .i64 0))
    have f1 := (hb.frozen (p := ⟨w.heap.size, 1, none⟩) (by simp)).trans (by go_cell : _ = false)
    clear hb
    go_wp2_with fail
    go_loopw [5, 6] (fun av bv wr => ∃ x y : Nat, av = .int .i64 x ∧ bv = .int .i64 y ∧ x ≤ 1000000000000000000 ∧ y ≤ 1000000000000000000 ∧ Hid (Nat.gcd x y = g) ∧ Hid (Below w.heap.size w wr) ∧ w.heap.size < wr.heap.size ∧ wr.cell? ⟨w.heap.size, 0, none⟩ = some (.int .i64 0) ∧ wr.cell? ⟨w.heap.size, 1, none⟩ = some (.int .i64 0) ∧ wr.frozen? ⟨w.heap.size, 0, none⟩ = false ∧ wr.frozen? ⟨w.heap.size, 1, none⟩ = false) (fun _ bv _ => (intOf bv).toNat)
    case atStart => exact ⟨a, b, rfl, by first | rfl | rw [HA.out.2], la, lb, HG, Lib.hid D1, s1, c0, c1, f0, f1⟩
    case round =>
      obtain ⟨x, y, rfl, rfl, hx, hy, HGG, HB, hs, e0, e1, z0, z1⟩ := hrel
      have hB := HB.out
      by_cases hy0 : 0 < y
      · have t1 : (0 : Int) < (y : Int) := by omega
        have y0 : ¬ (y : Int) = 0 := by omega
        have y1 : ¬ y = 0 := by omega
        have y2 : ¬ (y : Int) = -1 := by omega
        have hlt : x % y < y := Nat.mod_lt _ hy0
        have wt : (x : Int).tmod (y : Int) = ((x % y : Nat) : Int) := by
          rw [Int.tmod_eq_emod_of_nonneg (by omega)]
          exact (Int.natCast_emod x y).symm
        have ww : IntKind.i64.wrap ((x % y : Nat) : Int) = ((x % y : Nat) : Int) := by
          have : x % y ≤ 1000000000000000000 := by omega
          generalize x % y = r at *
          go_arith
        have HN : Hid (Nat.gcd y (x % y) = g) := Lib.hid (by rw [← HGG.out, Nat.gcd_comm x y, Nat.gcd_rec y x, Nat.gcd_comm])
        go_upto_region 5 with fail
        refine wp_region_held_drew (S := fun _ => True) (by kernel_rfl) trivial (fun hHeld => ?_)
        refine wpAnyH_take (i := 0) (oi := _) (v := ?_) rfl (by kernel_rfl) (by kernel_rfl) (by kernel_rfl) (fun _ _ _ h => h) (Or.inl ⟨by rfl, ?_⟩) (by assumption) ?_
        rotate_left
        · intro w hSw; go_simp; (try with_reducible rfl)
        try change wpAnyH _ _ _ _ _ _ _ (Act.put _ (some 18) _) _
        try simp only [act_all]
        refine wpAnyH_take (i := 1) (oi := _) (v := ?_) rfl (by kernel_rfl) (by kernel_rfl) (by kernel_rfl) (fun _ _ _ h => h) (Or.inl ⟨by rfl, ?_⟩) (by assumption) ?_
        rotate_left
        · intro w hSw; go_simp; (try with_reducible rfl)
        try change wpAnyH _ _ _ _ _ _ _ (Act.put _ (some 19) _) _
        try simp only [act_all]
        refine wpAnyH_take (i := 2) (oi := _) (v := ?_) rfl (by kernel_rfl) (by kernel_rfl) (by kernel_rfl) (fun _ _ _ h => h) (Or.inl ⟨by rfl, ?_⟩) (by assumption) ?_
        rotate_left
        · intro w hSw; go_simp; (try with_reducible rfl)
        try change wpAnyH _ _ _ _ _ _ _ (Act.put _ (some 20) _) _
        try simp only [act_all]
        refine wpAnyH_take (i := 3) (oi := _) (v := ?_) rfl (by kernel_rfl) (by kernel_rfl) (by kernel_rfl) (fun _ _ _ h => h) (Or.inl ⟨by rfl, ?_⟩) (by assumption) ?_
        rotate_left
        · intro w hSw; go_simp; (try with_reducible rfl)
        try change wpAnyH _ _ _ _ _ _ _ (Act.put _ (some 21) _) _
        try simp only [act_all]
        refine wpAnyH_take (i := 4) (oi := _) (v := ?_) rfl (by kernel_rfl) (by kernel_rfl) (by kernel_rfl) (fun _ _ _ h => h) (Or.inl ⟨by rfl, ?_⟩) (by assumption) ?_
        rotate_left
        · intro w hSw; go_simp; (try with_reducible rfl)
        try change wpAnyH _ _ _ _ _ _ _ (Act.put _ (some 5) _) _
        try simp only [act_all]
        refine wpAnyH_take (i := 5) (oi := _) (v := ?_) rfl (by kernel_rfl) (by kernel_rfl) (by kernel_rfl) (fun _ _ _ h => h) (Or.inl ⟨by rfl, ?_⟩) (by assumption) ?_
        rotate_left
        · intro w hSw; go_simp; (try with_reducible rfl)
        try change wpAnyH _ _ _ _ _ _ _ (Act.put _ (some 6) _) _
        try simp only [act_all]
        refine wpAnyH_done (by kernel_rfl) ?_ _
        go_wp2_with fail
        go_roundw
        case rel => exact ⟨y, x % y, rfl, by first | rfl | rw [Int.natCast_emod] | (simp; done), hy, by omega, HN, Lib.hid (by go_grown), by first | assumption | simpa using hs, by go_cell, by go_cell, by go_cell, by go_cell⟩
        case measure => first | (simp [intOf]; done) | (simp [intOf, wt, ww]; omega) | (simp [intOf]; omega)
      · obtain rfl : y = 0 := by omega
        obtain rfl : x = g := by have := HGG.out; rwa [Nat.gcd_zero_right] at this
        go_upto_region 6 with fail
        refine wp_region_held_drew (S := fun _ => True) (by kernel_rfl) trivial (fun hHeld => ?_)
        refine wpAnyH_take (i := 0) (oi := _) (v := ?_) rfl (by kernel_rfl) (by kernel_rfl) (by kernel_rfl) (fun _ _ _ h => h) (Or.inl ⟨by rfl, ?_⟩) (by assumption) ?_
        rotate_left
        · intro w hSw; go_simp; (try with_reducible rfl)
        try change wpAnyH _ _ _ _ _ _ _ (Act.put _ (some 22) _) _
        try simp only [act_all]
        refine wpAnyH_take (i := 1) (oi := _) (v := ?_) rfl (by kernel_rfl) (by kernel_rfl) (by kernel_rfl) (fun _ _ _ h => h) (Or.inl ⟨by rfl, ?_⟩) (by assumption) ?_
        rotate_left
        · intro w hSw; go_simp; (try with_reducible rfl)
        try change wpAnyH _ _ _ _ _ _ _ (Act.put _ (some 23) _) _
        try simp only [act_all]
        refine wpAnyH_take (i := 2) (oi := _) (v := ?_) rfl (by kernel_rfl) (by kernel_rfl) (by kernel_rfl) (fun _ _ _ h => h) (Or.inl ⟨by rfl, ?_⟩) (by assumption) ?_
        rotate_left
        · intro w hSw; go_simp; (try with_reducible rfl)
        try change wpAnyH _ _ _ _ _ _ _ (Act.put _ (some 24) _) _
        try simp only [act_all]
        refine wpAnyH_take (i := 3) (oi := _) (v := ?_) rfl (by kernel_rfl) (by kernel_rfl) (by kernel_rfl) (fun _ _ _ h => h) (Or.inl ⟨by rfl, ?_⟩) (by assumption) ?_
        rotate_left
        · intro w hSw; go_simp; (try with_reducible rfl)
        try change wpAnyH _ _ _ _ _ _ _ (Act.put _ (some 25) _) _
        try simp only [act_all]
        refine wpAnyH_take (i := 4) (oi := _) (v := ?_) rfl (by kernel_rfl) (by kernel_rfl) (by kernel_rfl) (fun _ _ _ h => h) (Or.inl ⟨by rfl, ?_⟩) (by assumption) ?_
        rotate_left
        · intro w hSw; go_simp; (try with_reducible rfl)
        try change wpAnyH _ _ _ _ _ _ _ (Act.put _ (some 26) _) _
        try simp only [act_all]
        refine wpAnyH_take (i := 5) (oi := _) (v := ?_) rfl (by kernel_rfl) (by kernel_rfl) (by kernel_rfl) (fun _ _ _ h => h) (Or.inl ⟨by rfl, ?_⟩) (by assumption) ?_
        rotate_left
        · intro w hSw; go_simp; (try with_reducible rfl)
        try change wpAnyH _ _ _ _ _ _ _ (Act.put _ (some 27) _) _
        try simp only [act_all]
        refine wpAnyH_take (i := 6) (oi := _) (v := ?_) rfl (by kernel_rfl) (by kernel_rfl) (by kernel_rfl) (fun _ _ _ h => h) (Or.inl ⟨by rfl, ?_⟩) (by assumption) ?_
        rotate_left
        · intro w hSw; go_simp; (try with_reducible rfl)
        try change wpAnyH _ _ _ _ _ _ _ (Act.put _ (some 28) _) _
        try simp only [act_all]
        refine wpAnyH_ready (rs := [7]) (by kernel_rfl) (by simp) ?_
        refine AllReadyH.cons (o := _) rfl (fun K hK => ?_) AllReadyH.nil
        go_simp
        refine hK.out _ _ trivial (fun hHeld => ?_)
        clear hK K
        try simp only [act_all]
        refine wpAnyH_done (by kernel_rfl) ?_ _
        go_wp2_with fail
        refine bodyPost_ret (v := .agg #[.int .i64 p, .int .i64 q]) (by simp [results, Try.results76, go_sem, *]) rfl ⟨rfl, by go_grown⟩
end Go.Proofs.Ytdhlikedjephmaa
