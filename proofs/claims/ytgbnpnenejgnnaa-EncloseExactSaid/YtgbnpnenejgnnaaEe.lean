import Derived.Test.YtgbnpnenejgnnaaEd
namespace Encl
def hulTo (s : Sp) (f : Nat → Sp) : Nat → Sp
  | 0 => s
  | k + 1 => hul (hulTo s f k) (f k)
theorem hul_lo_lt {s x : Sp} (h : s.lo < x.lo) : (hul s x).lo = s.lo := by simp only [hul]; omega
end Encl
namespace Go.Proofs.Ytgbnpnenejgnnaa
open Go.RowKit Encl

/-- Spans lie one behind the other from the head of block g on. -/
def Sps (w : World) (g n : Nat) (f : Nat → Sp) : Prop := ∀ i, i < n → w.cell? ⟨g, i * 2, none⟩ = some (.int .i64 (f i).lo) ∧ w.cell? ⟨g, i * 2 + 1, none⟩ = some (.int .i64 (f i).hi)
theorem Sps.keep {w w1 : World} {g n : Nat} {f : Nat → Sp} (h : Sps w g n f) (hb : Below w.heap.size w w1) : Sps w1 g n f := by
  intro i hi
  obtain ⟨h1, h2⟩ := h i hi
  have hB : g < w.heap.size := World.block_lt_of_cell? w _ h1
  exact ⟨((bcl hb).1 _ _ hB).trans h1, ((bcl hb).1 _ _ hB).trans h2⟩

set_option maxRecDepth 100000 in
set_option maxHeartbeats 4000000 in
theorem hull_any (a b : Int) (g n cap : Nat) (f : Nat → Sp) (w : World) (hn : n ≤ 1000) (hc : Sps w g n f) :
    Calls Try.prog 151 #[.agg #[.int .i64 a, .int .i64 b], .slice (some ⟨g, 0, none⟩) n cap] w fun e w' => e = retS (hulTo ⟨a, b⟩ f n) ∧ Below w.heap.size w w' := by
  have HC := Lib.hid hc
  clear hc
  go_enter Try.func151, Try.ntmps151
  go_wp2_with fail
  go_loopw [9] (fun iv wr => ∃ (k : Nat) (s : Sp), iv = .int .i64 k ∧ k ≤ n ∧ Hid (hulTo ⟨a, b⟩ f k = s) ∧ wr.cell? ⟨w.heap.size, 0, none⟩ = some (.int .i64 s.lo) ∧ wr.cell? ⟨w.heap.size, 1, none⟩ = some (.int .i64 s.hi) ∧ wr.frozen? ⟨w.heap.size, 0, none⟩ = false ∧ wr.frozen? ⟨w.heap.size, 1, none⟩ = false ∧ wr.cell? ⟨w.heap.size + 1, 0, none⟩ = some (.int .i64 0) ∧ wr.cell? ⟨w.heap.size + 1, 1, none⟩ = some (.int .i64 0) ∧ wr.frozen? ⟨w.heap.size + 1, 0, none⟩ = false ∧ wr.frozen? ⟨w.heap.size + 1, 1, none⟩ = false ∧ w.heap.size + 1 < wr.heap.size ∧ Below w.heap.size w wr) (fun iv _ => n - (intOf iv).toNat)
  case atStart =>
    refine ⟨0, ⟨a, b⟩, rfl, by omega, Lib.hid rfl, ?_, ?_, ?_, ?_, ?_, ?_, ?_, ?_, ?_, ?_⟩
    all_goals first | (go_cell; done) | go_grown | (simp; done)
  case round =>
    obtain ⟨k, ⟨p, q⟩, rfl, hk, HS, c0, c1, f0, f1, d0, d1, e0, e1, hsz, hbel⟩ := hrel
    have DB := Lib.hid hbel
    clear hbel
    simp only at c0 c1
    by_cases hlt : k < n
    · have hlt' : (k : Int) < (n : Int) := by omega
      obtain ⟨u, v, hf⟩ : ∃ u v, f k = ⟨u, v⟩ := ⟨_, _, rfl⟩
      have HF := Lib.hid hf
      obtain ⟨m0, m1⟩ := HC.out k hlt
      have hB : g < w.heap.size := World.block_lt_of_cell? w _ m0
      rw [hf] at m0 m1
      have g0 : wr.cell? ⟨g, k * 2, none⟩ = some (.int .i64 u) := (DB.out.cell (p := ⟨g, k * 2, none⟩) hB).trans m0
      have g1 : wr.cell? ⟨g, k * 2 + 1, none⟩ = some (.int .i64 v) := (DB.out.cell (p := ⟨g, k * 2 + 1, none⟩) hB).trans m1
      clear hf m0 m1
      go_upto_region 4 with fail
      have hb0 : Below w.heap.size w (wr.alloc (Obj.cells #[.int .i64 u, .int .i64 v] 23)) := by have := DB.out; go_grown
      have hx0 : (wr.alloc (Obj.cells #[.int .i64 u, .int .i64 v] 23)).cell? ⟨wr.heap.size, 0, none⟩ = some (.int .i64 u) := by go_cell
      have hx1 : (wr.alloc (Obj.cells #[.int .i64 u, .int .i64 v] 23)).cell? ⟨wr.heap.size, 1, none⟩ = some (.int .i64 v) := by go_cell
      have hb1 : Below wr.heap.size wr (wr.alloc (Obj.cells #[.int .i64 u, .int .i64 v] 23)) := (Below.refl _ _).alloc (Nat.le_refl _) _
      have hs0 : (wr.alloc (Obj.cells #[.int .i64 u, .int .i64 v] 23)).cell? ⟨w.heap.size, 0, none⟩ = some (.int .i64 p) := (hb1.cell (p := ⟨w.heap.size, 0, none⟩) (by simp only; omega)).trans c0
      have hs1 : (wr.alloc (Obj.cells #[.int .i64 u, .int .i64 v] 23)).cell? ⟨w.heap.size, 1, none⟩ = some (.int .i64 q) := (hb1.cell (p := ⟨w.heap.size, 1, none⟩) (by simp only; omega)).trans c1
      have hr0 : (wr.alloc (Obj.cells #[.int .i64 u, .int .i64 v] 23)).cell? ⟨w.heap.size + 1, 0, none⟩ = some (.int .i64 0) := (hb1.cell (p := ⟨w.heap.size + 1, 0, none⟩) (by simp only; omega)).trans d0
      have hr1 : (wr.alloc (Obj.cells #[.int .i64 u, .int .i64 v] 23)).cell? ⟨w.heap.size + 1, 1, none⟩ = some (.int .i64 0) := (hb1.cell (p := ⟨w.heap.size + 1, 1, none⟩) (by simp only; omega)).trans d1
      have hf0 : (wr.alloc (Obj.cells #[.int .i64 u, .int .i64 v] 23)).frozen? ⟨w.heap.size, 0, none⟩ = false := (hb1.frozen (p := ⟨w.heap.size, 0, none⟩) (by simp only; omega)).trans f0
      have hf1 : (wr.alloc (Obj.cells #[.int .i64 u, .int .i64 v] 23)).frozen? ⟨w.heap.size, 1, none⟩ = false := (hb1.frozen (p := ⟨w.heap.size, 1, none⟩) (by simp only; omega)).trans f1
      have hq0 : (wr.alloc (Obj.cells #[.int .i64 u, .int .i64 v] 23)).frozen? ⟨w.heap.size + 1, 0, none⟩ = false := (hb1.frozen (p := ⟨w.heap.size + 1, 0, none⟩) (by simp only; omega)).trans e0
      have hq1 : (wr.alloc (Obj.cells #[.int .i64 u, .int .i64 v] 23)).frozen? ⟨w.heap.size + 1, 1, none⟩ = false := (hb1.frozen (p := ⟨w.heap.size + 1, 1, none⟩) (by simp only; omega)).trans e1
      clear hb1
      have hz : wr.heap.size < (wr.alloc (Obj.cells #[.int .i64 u, .int .i64 v] 23)).heap.size := by simp
      generalize wr.alloc (Obj.cells #[.int .i64 u, .int .i64 v] 23) = W at *
      generalize wr.heap.size = X at *
      have HB0 := Lib.hid hb0
      have hne : ¬ X = w.heap.size := by omega
      have hne1 : ¬ X = w.heap.size + 1 := by omega
      have hxs : w.heap.size + 1 < W.heap.size := by omega
      clear hb0 c0 c1 f0 f1 d0 d1 e0 e1 g0 g1
      refine wp_region_held_drew (S := fun w' => w'.cell? ⟨X, 0, none⟩ = some (.int .i64 u) ∧ w'.cell? ⟨X, 1, none⟩ = some (.int .i64 v)) (by kernel_rfl) ⟨by go_cell, by go_cell⟩ (fun hHeld => ?_)
      refine wpAnyH_take (i := 0) (oi := _) (v := ?_) rfl (by kernel_rfl) (by kernel_rfl) (by kernel_rfl) (fun _ _ _ h => h) (Or.inl ⟨by rfl, ?_⟩) (by assumption) ?_
      rotate_left
      · intro w hSw; obtain ⟨_, _⟩ := hSw; go_simp; (try with_reducible rfl)
      try change wpAnyH _ _ _ _ _ _ _ (Act.put _ (some 13) _) _
      try simp only [act_all]
      refine wpAnyH_take (i := 2) (oi := _) (v := ?_) rfl (by kernel_rfl) (by kernel_rfl) (by kernel_rfl) (fun _ _ _ h => h) (Or.inl ⟨by rfl, ?_⟩) (by assumption) ?_
      rotate_left
      · intro w hSw; obtain ⟨_, _⟩ := hSw; go_simp; (try with_reducible rfl)
      try change wpAnyH _ _ _ _ _ _ _ (Act.put _ (some 15) _) _
      try simp only [act_all]
      refine wpAnyH_take (i := 3) (oi := _) (v := ?_) rfl (by kernel_rfl) (by kernel_rfl) (by kernel_rfl) (fun _ _ _ h => h) (Or.inl ⟨by rfl, ?_⟩) (by assumption) ?_
      rotate_left
      · intro w hSw; obtain ⟨_, _⟩ := hSw; go_simp; (try with_reducible rfl)
      try change wpAnyH _ _ _ _ _ _ _ (Act.put _ (some 16) _) _
      try simp only [act_all]
      refine wpAnyH_take (i := 5) (oi := _) (v := ?_) rfl (by kernel_rfl) (by kernel_rfl) (by kernel_rfl) (fun _ _ _ h => h) (Or.inl ⟨by rfl, ?_⟩) (by assumption) ?_
      rotate_left
      · intro w hSw; obtain ⟨_, _⟩ := hSw; go_simp; (try with_reducible rfl)
      try change wpAnyH _ _ _ _ _ _ _ (Act.put _ (some 18) _) _
      try simp only [act_all]
      refine wpAnyH_take (i := 7) (oi := _) (v := ?_) rfl (by kernel_rfl) (by kernel_rfl) (by kernel_rfl) (fun _ _ _ h => h) (Or.inl ⟨by rfl, ?_⟩) (by assumption) ?_
      rotate_left
      · intro w hSw; obtain ⟨_, _⟩ := hSw; go_simp; (try with_reducible rfl)
      try change wpAnyH _ _ _ _ _ _ _ (Act.put _ (some 20) _) _
      try simp only [act_all]
      refine wpAnyH_take (i := 8) (oi := _) (v := ?_) rfl (by kernel_rfl) (by kernel_rfl) (by kernel_rfl) (fun _ _ _ h => h) (Or.inl ⟨by rfl, ?_⟩) (by assumption) ?_
      rotate_left
      · intro w hSw; obtain ⟨_, _⟩ := hSw; go_simp; (try with_reducible rfl)
      try change wpAnyH _ _ _ _ _ _ _ (Act.put _ (some 21) _) _
      try simp only [act_all]
      refine wpAnyH_ready (rs := [1, 6]) (by kernel_rfl) (by simp) ?_
      refine AllReadyH.cons (o := _) rfl (fun K hK => ?_) ?_
      · go_simp
        refine hK.out _ _ (by first | assumption | (refine ⟨?_, ?_⟩ <;> go_cell)) (fun hHeld => ?_)
        clear hK K
        try simp only [act_all]
        refine wpAnyH_take (i := 4) (oi := _) (v := ?_) rfl (by kernel_rfl) (by kernel_rfl) (by kernel_rfl) (fun _ _ _ h => h) (Or.inl ⟨by rfl, ?_⟩) (by assumption) ?_
        rotate_left
        · intro w hSw; obtain ⟨_, _⟩ := hSw; go_simp; (try with_reducible rfl)
        try change wpAnyH _ _ _ _ _ _ _ (Act.put _ (some 17) _) _
        try simp only [act_all]
        refine wpAnyH_ready (rs := [6]) (by kernel_rfl) (by simp) ?_
        refine AllReadyH.cons (o := _) rfl (fun K hK => ?_) AllReadyH.nil
        go_simp
        refine hK.out _ _ (by first | assumption | (refine ⟨?_, ?_⟩ <;> go_cell)) (fun hHeld => ?_)
        clear hK K
        try simp only [act_all]
        refine wpAnyH_take (i := 9) (oi := _) (v := ?_) rfl (by kernel_rfl) (by kernel_rfl) (by kernel_rfl) (fun _ _ _ h => h) (Or.inl ⟨by rfl, ?_⟩) (by assumption) ?_
        rotate_left
        · intro w hSw; obtain ⟨_, _⟩ := hSw; go_simp; (try with_reducible rfl)
        try change wpAnyH _ _ _ _ _ _ _ (Act.put _ (some 22) _) _
        try simp only [act_all]
        refine wpAnyH_take (i := 10) (oi := _) (v := ?_) rfl (by kernel_rfl) (by kernel_rfl) (by kernel_rfl) (fun _ _ _ h => h) (Or.inl ⟨by rfl, ?_⟩) (by assumption) ?_
        rotate_left
        · intro w hSw; obtain ⟨_, _⟩ := hSw; go_simp; (try with_reducible rfl)
        try change wpAnyH _ _ _ _ _ _ _ (Act.put _ (some 23) _) _
        try simp only [act_all]
        refine wpAnyH_ready (rs := [11]) (by kernel_rfl) (by simp) ?_
        refine AllReadyH.cons (o := _) rfl (fun K hK => ?_) AllReadyH.nil
        go_simp
        refine hK.out _ _ (by first | assumption | (refine ⟨?_, ?_⟩ <;> go_cell)) (fun hHeld => ?_)
        clear hK K
        try simp only [act_all]
        refine wpAnyH_take (i := 12) (oi := _) (v := ?_) rfl (by kernel_rfl) (by kernel_rfl) (by kernel_rfl) (fun _ _ _ h => h) (Or.inl ⟨by rfl, ?_⟩) (by assumption) ?_
        rotate_left
        · intro w hSw; obtain ⟨_, _⟩ := hSw; go_simp; (try with_reducible rfl)
        try change wpAnyH _ _ _ _ _ _ _ (Act.put _ (some 24) _) _
        try simp only [act_all]
        refine wpAnyH_ready (rs := [13]) (by kernel_rfl) (by simp) ?_
        refine AllReadyH.cons (o := _) rfl (fun K hK => ?_) AllReadyH.nil
        go_simp
        refine hK.out _ _ (by first | assumption | (refine ⟨?_, ?_⟩ <;> go_cell)) (fun hHeld => ?_)
        clear hK K
        try simp only [act_all]
        refine wpAnyH_done (by kernel_rfl) ?_ _
        have HN : Hid (hulTo ⟨a, b⟩ f (k + 1) = ⟨min p u, max q v⟩) := Lib.hid (by simp only [hulTo]; rw [HS.out, HF.out]; rfl)
        have HBE := HB0.out
        go_wp2_with fail
        go_roundw
        case rel =>
          refine ⟨k + 1, ⟨min p u, max q v⟩, by go_num, by omega, HN, ?_, ?_, ?_, ?_, ?_, ?_, ?_, ?_, ?_, ?_⟩
          all_goals first | (go_cell; done) | go_grown | (simp; omega)
        case measure => simp [intOf]; omega
      refine AllReadyH.cons (o := _) rfl (fun K hK => ?_) AllReadyH.nil
      go_simp
      refine hK.out _ _ (by first | assumption | (refine ⟨?_, ?_⟩ <;> go_cell)) (fun hHeld => ?_)
      clear hK K
      try simp only [act_all]
      refine wpAnyH_take (i := 9) (oi := _) (v := ?_) rfl (by kernel_rfl) (by kernel_rfl) (by kernel_rfl) (fun _ _ _ h => h) (Or.inl ⟨by rfl, ?_⟩) (by assumption) ?_
      rotate_left
      · intro w hSw; obtain ⟨_, _⟩ := hSw; go_simp; (try with_reducible rfl)
      try change wpAnyH _ _ _ _ _ _ _ (Act.put _ (some 22) _) _
      try simp only [act_all]
      refine wpAnyH_ready (rs := [1]) (by kernel_rfl) (by simp) ?_
      refine AllReadyH.cons (o := _) rfl (fun K hK => ?_) AllReadyH.nil
      go_simp
      refine hK.out _ _ (by first | assumption | (refine ⟨?_, ?_⟩ <;> go_cell)) (fun hHeld => ?_)
      clear hK K
      try simp only [act_all]
      refine wpAnyH_take (i := 4) (oi := _) (v := ?_) rfl (by kernel_rfl) (by kernel_rfl) (by kernel_rfl) (fun _ _ _ h => h) (Or.inl ⟨by rfl, ?_⟩) (by assumption) ?_
      rotate_left
      · intro w hSw; obtain ⟨_, _⟩ := hSw; go_simp; (try with_reducible rfl)
      try change wpAnyH _ _ _ _ _ _ _ (Act.put _ (some 17) _) _
      try simp only [act_all]
      refine wpAnyH_take (i := 10) (oi := _) (v := ?_) rfl (by kernel_rfl) (by kernel_rfl) (by kernel_rfl) (fun _ _ _ h => h) (Or.inl ⟨by rfl, ?_⟩) (by assumption) ?_
      rotate_left
      · intro w hSw; obtain ⟨_, _⟩ := hSw; go_simp; (try with_reducible rfl)
      try change wpAnyH _ _ _ _ _ _ _ (Act.put _ (some 23) _) _
      try simp only [act_all]
      refine wpAnyH_ready (rs := [11]) (by kernel_rfl) (by simp) ?_
      refine AllReadyH.cons (o := _) rfl (fun K hK => ?_) AllReadyH.nil
      go_simp
      refine hK.out _ _ (by first | assumption | (refine ⟨?_, ?_⟩ <;> go_cell)) (fun hHeld => ?_)
      clear hK K
      try simp only [act_all]
      refine wpAnyH_take (i := 12) (oi := _) (v := ?_) rfl (by kernel_rfl) (by kernel_rfl) (by kernel_rfl) (fun _ _ _ h => h) (Or.inl ⟨by rfl, ?_⟩) (by assumption) ?_
      rotate_left
      · intro w hSw; obtain ⟨_, _⟩ := hSw; go_simp; (try with_reducible rfl)
      try change wpAnyH _ _ _ _ _ _ _ (Act.put _ (some 24) _) _
      try simp only [act_all]
      refine wpAnyH_ready (rs := [13]) (by kernel_rfl) (by simp) ?_
      refine AllReadyH.cons (o := _) rfl (fun K hK => ?_) AllReadyH.nil
      go_simp
      refine hK.out _ _ (by first | assumption | (refine ⟨?_, ?_⟩ <;> go_cell)) (fun hHeld => ?_)
      clear hK K
      try simp only [act_all]
      refine wpAnyH_done (by kernel_rfl) ?_ _
      have HN : Hid (hulTo ⟨a, b⟩ f (k + 1) = ⟨min p u, max q v⟩) := Lib.hid (by simp only [hulTo]; rw [HS.out, HF.out]; rfl)
      have HBE := HB0.out
      go_wp2_with fail
      go_roundw
      case rel =>
        refine ⟨k + 1, ⟨min p u, max q v⟩, by go_num, by omega, HN, ?_, ?_, ?_, ?_, ?_, ?_, ?_, ?_, ?_, ?_⟩
        all_goals first | (go_cell; done) | go_grown | (simp; omega)
      case measure => simp [intOf]; omega
    · obtain rfl : k = n := by omega
      have hbel := DB.out
      go_wp2_with fail
      refine bodyPost_ret (v := .agg #[.int .i64 p, .int .i64 q]) (by simp [results, Try.results151, go_sem, *]) rfl ⟨?_, by go_grown⟩
      rw [HS.out]
      rfl
end Go.Proofs.Ytgbnpnenejgnnaa
