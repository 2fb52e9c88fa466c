import Derived.Test.YtdhlikedjephmaaHe
import Derived.Deep.RegionHeld2
import Derived.Deep.DeepCutAuto
namespace Heat
theorem gcd_facts {N D : Int} (hD : 0 < D) : ∃ g : Nat, Nat.gcd N.natAbs D.natAbs = g ∧ 0 < g ∧ N.tdiv g = N / g ∧ D.tdiv g = D / g ∧ (N / g).natAbs ≤ N.natAbs ∧ (D / g).natAbs ≤ D.natAbs := by
  refine ⟨Nat.gcd N.natAbs D.natAbs, rfl, Nat.gcd_pos_of_pos_right _ (by omega), ?_, ?_, Int.natAbs_ediv_le_natAbs _ _, Int.natAbs_ediv_le_natAbs _ _⟩
  · have h : ((Nat.gcd N.natAbs D.natAbs : Nat) : Int) ∣ N := Int.ofNat_dvd_left.2 (Nat.gcd_dvd_left _ _)
    exact Int.tdiv_eq_ediv_of_dvd h
  · have h : ((Nat.gcd N.natAbs D.natAbs : Nat) : Int) ∣ D := Int.ofNat_dvd_left.2 (Nat.gcd_dvd_right _ _)
    exact Int.tdiv_eq_ediv_of_dvd h
end Heat
namespace Go.Proofs.Ytdhlikedjephmaa
open Go.RowKit Heat
theorem act_all : (∀ (a : Act) (v : Value), a.put none v = a) ∧ (∀ (a : Act) (d : Tmp) (v : Value), a.put (some d) v = { a with tmps := a.tmps.setIfInBounds d v }) ∧ (∀ {α : Type} (l : List α) (i : Nat) (v : α), l.toArray.setIfInBounds i v = (l.set i v).toArray) ∧ (∀ {α : Type} (x : α) (l : List α) (v : α), (x :: l).set 0 v = v :: l) ∧ (∀ {α : Type} (x : α) (l : List α) (n : Nat) (v : α), (x :: l).set (n + 1) v = x :: l.set n v) :=
  ⟨fun _ _ => rfl, fun _ _ _ => rfl, fun l i v => List.setIfInBounds_toArray l i v, fun _ _ _ => rfl, fun _ _ _ _ => rfl⟩
/-- A new block, above all that stood at the start. -/
theorem bal {a w : World} (h : Below a.heap.size a w) (o : Obj) : Below a.heap.size a (w.alloc o) := h.alloc h.size o
theorem divisor_at (x y : Int) (a b : Nat) (w : World) (hx : x = a) (hy : y = b) (ha : a ≤ 4611686018427387904) (hb : b ≤ 4611686018427387904) :
    Calls Try.prog 79 #[.int .i64 x, .int .i64 y] w fun e w' => e = .returned (.int .i64 (Nat.gcd a b)) ∧ Below w.heap.size w w' := by
  subst hx; subst hy
  exact divisor_any a b w ha hb

set_option maxRecDepth 100000 in
set_option maxHeartbeats 4000000 in
theorem ratio_any (n d : Int) (w : World) (hn : n.natAbs ≤ 1000000000000000000) (hd : d.natAbs ≤ 1000000000000000000) (h0 : ¬ d = 0) :
    Calls Try.prog 74 #[.int .i64 n, .int .i64 d] w fun e w' => e = .returned (.agg #[.int .i64 (ratN n d), .int .i64 (ratD n d)]) ∧ Below w.heap.size w w' := by
  by_cases hneg : d < 0
  · obtain ⟨g, hg, g0, gn, gd, bn, bd⟩ := gcd_facts (N := -n) (D := -d) (by omega)
    have HE : Hid (ratN n d = (-n) / (g : Int) ∧ ratD n d = (-d) / (g : Int)) := Lib.hid (by unfold ratN ratD; rw [if_pos hneg, if_pos hneg]; rw [show Int.gcd n d = g from by rw [← hg]; simp [Int.gcd]]; exact ⟨rfl, rfl⟩)
    rw [HE.out.1, HE.out.2]
    have w1 : wrap64 (-n) = -n := by simp only [wrap64]; omega
    have w2 : wrap64 (-d) = -d := by simp only [wrap64]; omega
    have gz : ¬ (g : Int) = 0 := by omega
    have gnat : ¬ g = 0 := by omega
    have gm : ¬ (g : Int) = -1 := by omega
    have gb : ((g : Int) == 0) = false := beq_eq_false_iff_ne.2 gz
    obtain ⟨p, hp⟩ : ∃ p, (-n) / (g : Int) = p := ⟨_, rfl⟩
    obtain ⟨q, hq⟩ : ∃ q, (-d) / (g : Int) = q := ⟨_, rfl⟩
    rw [hp] at gn bn
    rw [hq] at gd bd
    rw [hp, hq]
    have wp : wrap64 p = p := by simp only [wrap64]; omega
    have wq : wrap64 q = q := by simp only [wrap64]; omega
    have wp' : IntKind.i64.wrap p = p := by go_arith
    have wq' : IntKind.i64.wrap q = q := by go_arith
    have HK : Hid (∀ w : World, Calls Try.prog 79 #[.int .i64 (absI (-n)), .int .i64 (-d)] w fun e w' => e = .returned (.int .i64 g) ∧ Below w.heap.size w w') := Lib.hid (fun w => by rw [← hg]; exact divisor_at _ _ (-n).natAbs (-d).natAbs w (by unfold absI; omega) (by omega) (by omega) (by omega))
    have HS : Hid (∀ w : World, Calls Try.prog 57 #[.int .i64 (-n)] w fun e w' => e = .returned (.int .i64 (absI (-n))) ∧ Below w.heap.size w w') := Lib.hid (fun w => size_any (-n) w (by omega) (by omega))
    clear hg g0 bn bd hp hq HE hn hd h0
    go_enter Try.func74, Try.ntmps74
    go_wp2_with fail
    refine (HS.out _).mono ?_
    rintro e w1 ⟨rfl, hb⟩
    have D1 : Below w.heap.size w w1 := Below.trans (by go_grown) (hb.mono (by first | omega | (simp; done) | (simp; omega)))
    have s1 : w.heap.size < w1.heap.size := by have hs := hb.size; (try simp at hs); omega
    have c0 := (hb.cell (p := ⟨w.heap.size, 0, none⟩) (by simp)).trans (by go_cell : _ = some (.int .i64 0))
    have f0 := (hb.frozen (p := ⟨w.heap.size, 0, none⟩) (by simp)).trans (by go_cell : _ = false)
    have c1 := (hb.cell (p := ⟨w.heap.size, 1, none⟩) (by simp)).trans (by go_cell : _ = some (.int .i64 0))
    have f1 := (hb.frozen (p := ⟨w.heap.size, 1, none⟩) (by simp)).trans (by go_cell : _ = false)
    clear hb
    go_wp2_with fail
    refine (HK.out _).mono ?_
    rintro e w2 ⟨rfl, hb⟩
    have D2 := D1.trans (hb.mono D1.size)
    have s2 : w.heap.size < w2.heap.size := by have hs := hb.size; omega
    have e0 := (hb.cell (p := ⟨w.heap.size, 0, none⟩) s1).trans c0
    have z0 := (hb.frozen (p := ⟨w.heap.size, 0, none⟩) s1).trans f0
    have e1 := (hb.cell (p := ⟨w.heap.size, 1, none⟩) s1).trans c1
    have z1 := (hb.frozen (p := ⟨w.heap.size, 1, none⟩) s1).trans f1
    clear hb D1 s1 c0 c1 f0 f1
    go_upto_region 4 with fail
    refine wp_region_held_drew (S := fun _ => True) (by kernel_rfl) trivial (fun hHeld => ?_)
    refine wpAnyH_take (i := 0) (oi := _) (v := ?_) rfl (by kernel_rfl) (by kernel_rfl) (by kernel_rfl) (fun _ _ _ h => h) (Or.inl ⟨by rfl, ?_⟩) (by assumption) ?_
    rotate_left
    · intro w hSw; go_simp; (try with_reducible rfl)
    try change wpAnyH _ _ _ _ _ _ _ (Act.put _ (some 16) _) _
    try simp only [act_all]
    refine wpAnyH_take (i := 1) (oi := _) (v := ?_) rfl (by kernel_rfl) (by kernel_rfl) (by kernel_rfl) (fun _ _ _ h => h) (Or.inl ⟨by rfl, ?_⟩) (by assumption) ?_
    rotate_left
    · intro w hSw; go_simp; (try with_reducible rfl)
    try change wpAnyH _ _ _ _ _ _ _ (Act.put _ (some 17) _) _
    try simp only [act_all]
    refine wpAnyH_take (i := 2) (oi := _) (v := ?_) rfl (by kernel_rfl) (by kernel_rfl) (by kernel_rfl) (fun _ _ _ h => h) (Or.inl ⟨by rfl, ?_⟩) (by assumption) ?_
    rotate_left
    · intro w hSw; go_simp; (try with_reducible rfl)
    try change wpAnyH _ _ _ _ _ _ _ (Act.put _ (some 18) _) _
    try simp only [act_all]
    refine wpAnyH_take (i := 3) (oi := _) (v := ?_) rfl (by kernel_rfl) (by kernel_rfl) (by kernel_rfl) (fun _ _ _ h => h) (Or.inl ⟨by rfl, ?_⟩) (by assumption) ?_
    rotate_left
    · intro w hSw; go_simp; (try with_reducible rfl)
    try change wpAnyH _ _ _ _ _ _ _ (Act.put _ (some 19) _) _
    try simp only [act_all]
    refine wpAnyH_take (i := 4) (oi := _) (v := ?_) rfl (by kernel_rfl) (by kernel_rfl) (by kernel_rfl) (fun _ _ _ h => h) (Or.inl ⟨by rfl, ?_⟩) (by assumption) ?_
    rotate_left
    · intro w hSw; go_simp; (try with_reducible rfl)
    try change wpAnyH _ _ _ _ _ _ _ (Act.put _ (some 20) _) _
    try simp only [act_all]
    refine wpAnyH_take (i := 5) (oi := _) (v := ?_) rfl (by kernel_rfl) (by kernel_rfl) (by kernel_rfl) (fun _ _ _ h => h) (Or.inl ⟨by rfl, ?_⟩) (by assumption) ?_
    rotate_left
    · intro w hSw; go_simp; (try with_reducible rfl)
    try change wpAnyH _ _ _ _ _ _ _ (Act.put _ (some 21) _) _
    try simp only [act_all]
    refine wpAnyH_take (i := 6) (oi := _) (v := ?_) rfl (by kernel_rfl) (by kernel_rfl) (by kernel_rfl) (fun _ _ _ h => h) (Or.inl ⟨by rfl, ?_⟩) (by assumption) ?_
    rotate_left
    · intro w hSw; go_simp; (try with_reducible rfl)
    try change wpAnyH _ _ _ _ _ _ _ (Act.put _ (some 22) _) _
    try simp only [act_all]
    refine wpAnyH_ready (rs := [7]) (by kernel_rfl) (by simp) ?_
    refine AllReadyH.cons (o := _) rfl (fun K hK => ?_) AllReadyH.nil
    go_simp
    refine hK.out _ _ trivial (fun hHeld => ?_)
    clear hK K
    try simp only [act_all]
    refine wpAnyH_done (by kernel_rfl) ?_ _
    go_wp2_with fail
    refine bodyPost_ret (v := .agg #[.int .i64 p, .int .i64 q]) (by simp [results, Try.results74, go_sem, *]) rfl ⟨rfl, by go_grown⟩
  · obtain ⟨g, hg, g0, gn, gd, bn, bd⟩ := gcd_facts (N := n) (D := d) (by omega)
    have HE : Hid (ratN n d = (n) / (g : Int) ∧ ratD n d = (d) / (g : Int)) := Lib.hid (by unfold ratN ratD; rw [if_neg hneg, if_neg hneg]; rw [show Int.gcd n d = g from by rw [← hg]; rfl]; exact ⟨rfl, rfl⟩)
    rw [HE.out.1, HE.out.2]
    have gz : ¬ (g : Int) = 0 := by omega
    have gnat : ¬ g = 0 := by omega
    have gm : ¬ (g : Int) = -1 := by omega
    have gb : ((g : Int) == 0) = false := beq_eq_false_iff_ne.2 gz
    obtain ⟨p, hp⟩ : ∃ p, (n) / (g : Int) = p := ⟨_, rfl⟩
    obtain ⟨q, hq⟩ : ∃ q, (d) / (g : Int) = q := ⟨_, rfl⟩
    rw [hp] at gn bn
    rw [hq] at gd bd
    rw [hp, hq]
    have wp : wrap64 p = p := by simp only [wrap64]; omega
    have wq : wrap64 q = q := by simp only [wrap64]; omega
    have wp' : IntKind.i64.wrap p = p := by go_arith
    have wq' : IntKind.i64.wrap q = q := by go_arith
    have HK : Hid (∀ w : World, Calls Try.prog 79 #[.int .i64 (absI (n)), .int .i64 (d)] w fun e w' => e = .returned (.int .i64 g) ∧ Below w.heap.size w w') := Lib.hid (fun w => by rw [← hg]; exact divisor_at _ _ (n).natAbs (d).natAbs w (by unfold absI; omega) (by omega) (by omega) (by omega))
    have HS : Hid (∀ w : World, Calls Try.prog 57 #[.int .i64 (n)] w fun e w' => e = .returned (.int .i64 (absI (n))) ∧ Below w.heap.size w w') := Lib.hid (fun w => size_any (n) w (by omega) (by omega))
    clear hg g0 bn bd hp hq HE hn hd h0
    go_enter Try.func74, Try.ntmps74
    go_wp2_with fail
    refine (HS.out _).mono ?_
    rintro e w1 ⟨rfl, hb⟩
    have D1 : Below w.heap.size w w1 := Below.trans (by go_grown) (hb.mono (by first | omega | (simp; done) | (simp; omega)))
    have s1 : w.heap.size < w1.heap.size := by have hs := hb.size; (try simp at hs); omega
    have c0 := (hb.cell (p := ⟨w.heap.size, 0, none⟩) (by simp)).trans (by go_cell : _ = some (.int .i64 0))
    have f0 := (hb.frozen (p := ⟨w.heap.size, 0, none⟩) (by simp)).trans (by go_cell : _ = false)
    have c1 := (hb.cell (p := ⟨w.heap.size, 1, none⟩) (by simp)).trans (by go_cell : _ = some (.int .i64 0))
    have f1 := (hb.frozen (p := ⟨w.heap.size, 1, none⟩) (by simp)).trans (by go_cell : _ = false)
    clear hb
    go_wp2_with fail
    refine (HK.out _).mono ?_
    rintro e w2 ⟨rfl, hb⟩
    have D2 := D1.trans (hb.mono D1.size)
    have s2 : w.heap.size < w2.heap.size := by have hs := hb.size; omega
    have e0 := (hb.cell (p := ⟨w.heap.size, 0, none⟩) s1).trans c0
    have z0 := (hb.frozen (p := ⟨w.heap.size, 0, none⟩) s1).trans f0
    have e1 := (hb.cell (p := ⟨w.heap.size, 1, none⟩) s1).trans c1
    have z1 := (hb.frozen (p := ⟨w.heap.size, 1, none⟩) s1).trans f1
    clear hb D1 s1 c0 c1 f0 f1
    go_upto_region 4 with fail
    refine wp_region_held_drew (S := fun _ => True) (by kernel_rfl) trivial (fun hHeld => ?_)
    refine wpAnyH_take (i := 0) (oi := _) (v := ?_) rfl (by kernel_rfl) (by kernel_rfl) (by kernel_rfl) (fun _ _ _ h => h) (Or.inl ⟨by rfl, ?_⟩) (by assumption) ?_
    rotate_left
    · intro w hSw; go_simp; (try with_reducible rfl)
    try change wpAnyH _ _ _ _ _ _ _ (Act.put _ (some 16) _) _
    try simp only [act_all]
    refine wpAnyH_take (i := 1) (oi := _) (v := ?_) rfl (by kernel_rfl) (by kernel_rfl) (by kernel_rfl) (fun _ _ _ h => h) (Or.inl ⟨by rfl, ?_⟩) (by assumption) ?_
    rotate_left
    · intro w hSw; go_simp; (try with_reducible rfl)
    try change wpAnyH _ _ _ _ _ _ _ (Act.put _ (some 17) _) _
    try simp only [act_all]
    refine wpAnyH_take (i := 2) (oi := _) (v := ?_) rfl (by kernel_rfl) (by kernel_rfl) (by kernel_rfl) (fun _ _ _ h => h) (Or.inl ⟨by rfl, ?_⟩) (by assumption) ?_
    rotate_left
    · intro w hSw; go_simp; (try with_reducible rfl)
    try change wpAnyH _ _ _ _ _ _ _ (Act.put _ (some 18) _) _
    try simp only [act_all]
    refine wpAnyH_take (i := 3) (oi := _) (v := ?_) rfl (by kernel_rfl) (by kernel_rfl) (by kernel_rfl) (fun _ _ _ h => h) (Or.inl ⟨by rfl, ?_⟩) (by assumption) ?_
    rotate_left
    · intro w hSw; go_simp; (try with_reducible rfl)
    try change wpAnyH _ _ _ _ _ _ _ (Act.put _ (some 19) _) _
    try simp only [act_all]
    refine wpAnyH_take (i := 4) (oi := _) (v := ?_) rfl (by kernel_rfl) (by kernel_rfl) (by kernel_rfl) (fun _ _ _ h => h) (Or.inl ⟨by rfl, ?_⟩) (by assumption) ?_
    rotate_left
    · intro w hSw; go_simp; (try with_reducible rfl)
    try change wpAnyH _ _ _ _ _ _ _ (Act.put _ (some 20) _) _
    try simp only [act_all]
    refine wpAnyH_take (i := 5) (oi := _) (v := ?_) rfl (by kernel_rfl) (by kernel_rfl) (by kernel_rfl) (fun _ _ _ h => h) (Or.inl ⟨by rfl, ?_⟩) (by assumption) ?_
    rotate_left
    · intro w hSw; go_simp; (try with_reducible rfl)
    try change wpAnyH _ _ _ _ _ _ _ (Act.put _ (some 21) _) _
    try simp only [act_all]
    refine wpAnyH_take (i := 6) (oi := _) (v := ?_) rfl (by kernel_rfl) (by kernel_rfl) (by kernel_rfl) (fun _ _ _ h => h) (Or.inl ⟨by rfl, ?_⟩) (by assumption) ?_
    rotate_left
    · intro w hSw; go_simp; (try with_reducible rfl)
    try change wpAnyH _ _ _ _ _ _ _ (Act.put _ (some 22) _) _
    try simp only [act_all]
    refine wpAnyH_ready (rs := [7]) (by kernel_rfl) (by simp) ?_
    refine AllReadyH.cons (o := _) rfl (fun K hK => ?_) AllReadyH.nil
    go_simp
    refine hK.out _ _ trivial (fun hHeld => ?_)
    clear hK K
    try simp only [act_all]
    refine wpAnyH_done (by kernel_rfl) ?_ _
    go_wp2_with fail
    refine bodyPost_ret (v := .agg #[.int .i64 p, .int .i64 q]) (by simp [results, Try.results74, go_sem, *]) rfl ⟨rfl, by go_grown⟩
end Go.Proofs.Ytdhlikedjephmaa
