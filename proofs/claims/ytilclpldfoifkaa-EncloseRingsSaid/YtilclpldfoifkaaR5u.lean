import Derived.Test.YtilclpldfoifkaaR5p
import Derived.Test.YtilclpldfoifkaaR5r
import Derived.Test.YtilclpldfoifkaaPw5
import Derived.Deep.DeepCutAuto
namespace Go.Proofs.Ytilclpldfoifkaa
open Go.RowKit Encl
theorem rn_OutS {o : Out Sp} {p q ee : Int} (h : rn 0 o = (⟨p, q⟩, ee)) : OutS o = .returned (.tuple #[.agg #[.int .i64 p, .int .i64 q], .int .i64 ee]) := by
  cases o with
  | ok s => rw [show rn 0 (Out.ok s) = (s, 0) from rfl] at h; obtain ⟨h1, h2⟩ := Prod.mk.inj h; subst h1; subst h2; rfl
  | bad k => rw [show rn 0 (Out.bad k) = (S0, k) from rfl] at h; obtain ⟨h1, h2⟩ := Prod.mk.inj h; obtain ⟨h3, h4⟩ := Sp.mk.inj h1; subst h2; rw [← h3, ← h4]; rfl

set_option maxRecDepth 100000 in
set_option maxHeartbeats 4000000 in
theorem rPower_any (a b c d : Int) (w : World) :
    Calls Try.prog 33 #[.agg #[.int .i64 a, .int .i64 b, .int .i64 c, .int .i64 d]] w fun e w' => e = OutS (powO ⟨⟨a, b⟩, ⟨c, d⟩⟩) ∧ Below w.heap.size w w' := by
  obtain ⟨SP, hsp⟩ : ∃ SP, powO ⟨⟨a, b⟩, ⟨c, d⟩⟩ = SP := ⟨_, rfl⟩
  have HSP := Lib.hid hsp
  rw [hsp]
  clear hsp
  obtain ⟨bb, hbb⟩ : ∃ bb, okR ⟨⟨a, b⟩, ⟨c, d⟩⟩ = bb := ⟨_, rfl⟩
  have HBB := Lib.hid hbb
  clear hbb
  go_enter Try.func33, Try.ntmps33
  go_wp2_with fail
  refine (rValidRect_any a b c d _).mono ?_
  rw [HBB.out]
  rintro e w1 ⟨rfl, hb⟩
  have D1 : Below w.heap.size w w1 := Below.trans (by go_grown) (hb.mono (by first | omega | (simp; done) | (simp; omega)))
  have s1 : w.heap.size + 1 < w1.heap.size := by have hs := hb.size; (try simp at hs); omega
  have s1a : w.heap.size < w1.heap.size := by omega
  obtain ⟨k1, k2⟩ := bcl hb
  have x0 := (k1 (w.heap.size) 0 (by first | omega | (simp; done) | (simp; omega))).trans (by go_cell : _ = some (.int .i64 a))
  have x1 := (k1 (w.heap.size) 1 (by first | omega | (simp; done) | (simp; omega))).trans (by go_cell : _ = some (.int .i64 b))
  have x2 := (k1 (w.heap.size) 2 (by first | omega | (simp; done) | (simp; omega))).trans (by go_cell : _ = some (.int .i64 c))
  have x3 := (k1 (w.heap.size) 3 (by first | omega | (simp; done) | (simp; omega))).trans (by go_cell : _ = some (.int .i64 d))
  have d0 := (k1 (w.heap.size + 1) 0 (by first | omega | (simp; done) | (simp; omega))).trans (by go_cell : _ = some (.int .i64 0))
  have f0 := (k2 (w.heap.size + 1) 0 (by first | omega | (simp; done) | (simp; omega))).trans (by go_cell : _ = false)
  have d1 := (k1 (w.heap.size + 1) 1 (by first | omega | (simp; done) | (simp; omega))).trans (by go_cell : _ = some (.int .i64 0))
  have f1 := (k2 (w.heap.size + 1) 1 (by first | omega | (simp; done) | (simp; omega))).trans (by go_cell : _ = false)
  clear hb k1 k2
  cases bb with
  | false =>
    have HN : Hid (SP = .bad 50) := Lib.hid (by rw [← HSP.out]; unfold powO; rw [if_neg (by rw [HBB.out]; decide)])
    go_wp2_with fail
    refine bodyPost_ret (v := .tuple #[.agg #[.int .i64 0, .int .i64 0], .int .i64 50]) (by simp [results, Try.results33, go_sem, *]) rfl ⟨by rw [HN.out]; rfl, by go_grown⟩
  | true =>
    obtain ⟨rr, hrr⟩ : ∃ rr, powW 0 ⟨⟨a, b⟩, ⟨c, d⟩⟩ = rr := ⟨_, rfl⟩
    have HR := Lib.hid hrr
    obtain ⟨⟨p, q⟩, ee⟩ := rr
    have HN : Hid (OutS SP = .returned (.tuple #[.agg #[.int .i64 p, .int .i64 q], .int .i64 ee])) := Lib.hid (by rw [← HSP.out]; unfold powO; rw [if_pos HBB.out]; exact rn_OutS (by rw [← powW_eq]; exact hrr))
    clear hrr
    go_wp2_with fail
    have hb0 : Below w1.heap.size w1 (w1.alloc (Obj.cells #[.int .i64 0] 71)) := (Below.refl _ _).alloc (Nat.le_refl _) _
    have q0 : (w1.alloc (Obj.cells #[.int .i64 0] 71)).cell? ⟨w1.heap.size, 0, none⟩ = some (.int .i64 0) := by go_cell
    have q1 : (w1.alloc (Obj.cells #[.int .i64 0] 71)).frozen? ⟨w1.heap.size, 0, none⟩ = false := by go_cell
    have qz : w1.heap.size < (w1.alloc (Obj.cells #[.int .i64 0] 71)).heap.size := by simp
    have D2 := D1.trans (hb0.mono D1.size)
    have yd0 := (hb0.cell (p := ⟨w.heap.size + 1, 0, none⟩) (by simp only; omega)).trans d0
    have yf0 := (hb0.frozen (p := ⟨w.heap.size + 1, 0, none⟩) (by simp only; omega)).trans f0
    have yd1 := (hb0.cell (p := ⟨w.heap.size + 1, 1, none⟩) (by simp only; omega)).trans d1
    have yf1 := (hb0.frozen (p := ⟨w.heap.size + 1, 1, none⟩) (by simp only; omega)).trans f1
    clear hb0 D1 d0 d1 f0 f1 x0 x1 x2 x3
    generalize (w1.alloc (Obj.cells #[.int .i64 0] 71)) = W at *
    obtain ⟨G, hG⟩ : ∃ G, w1.heap.size = G := ⟨_, rfl⟩
    rw [hG] at s1 s1a q0 q1 qz ⊢
    clear hG
    refine (rPowerW_any a b c d 0 G _ ((okR_iff _).1 HBB.out).1 ((okR_iff _).1 HBB.out).2 q0 q1).mono ?_
    rw [HR.out]
    rintro e w3 ⟨he, hb⟩
    obtain rfl : e = .returned (.agg #[.int .i64 p, .int .i64 q]) := he
    have D3 := D2.trans (hb.below (by omega) D2.size)
    have s3 : G < w3.heap.size := by have := hb.size; omega
    have s3' : w.heap.size + 1 < w3.heap.size := by omega
    obtain ⟨k1, k2⟩ := hb.cells
    have g0 := hb.cell
    have zd0 := (k1 (w.heap.size + 1) 0 (by omega) (by omega)).trans yd0
    have zf0 := (k2 (w.heap.size + 1) 0 (by omega) (by omega)).trans yf0
    have zd1 := (k1 (w.heap.size + 1) 1 (by omega) (by omega)).trans yd1
    have zf1 := (k2 (w.heap.size + 1) 1 (by omega) (by omega)).trans yf1
    clear hb k1 k2 D2 q0 q1 qz yd0 yd1 yf0 yf1
    go_upto_region 5 with fail
    have b3 : Below w3.heap.size w3 (w3.alloc (Obj.cells #[.int .i64 p, .int .i64 q] 23)) := bal (Below.refl _ _) _
    have D4 := D3.trans (b3.mono D3.size)
    have c0 : (w3.alloc (Obj.cells #[.int .i64 p, .int .i64 q] 23)).cell? ⟨w3.heap.size, 0, none⟩ = some (.int .i64 p) := by go_cell
    have c1 : (w3.alloc (Obj.cells #[.int .i64 p, .int .i64 q] 23)).cell? ⟨w3.heap.size, 1, none⟩ = some (.int .i64 q) := by go_cell
    have cg := (b3.cell (p := ⟨G, 0, none⟩) (by simp only; omega)).trans g0
    have ed0 := (b3.cell (p := ⟨w.heap.size + 1, 0, none⟩) (by simp only; omega)).trans zd0
    have ef0 := (b3.frozen (p := ⟨w.heap.size + 1, 0, none⟩) (by simp only; omega)).trans zf0
    have ed1 := (b3.cell (p := ⟨w.heap.size + 1, 1, none⟩) (by simp only; omega)).trans zd1
    have ef1 := (b3.frozen (p := ⟨w.heap.size + 1, 1, none⟩) (by simp only; omega)).trans zf1
    have n0 : ¬ w3.heap.size = w.heap.size + 1 := by omega
    have n1 : ¬ G = w.heap.size + 1 := by omega
    have sE : w.heap.size + 1 < (w3.alloc (Obj.cells #[.int .i64 p, .int .i64 q] 23)).heap.size := by simp; omega
    clear b3 D3 zd0 zd1 zf0 zf1 g0
    generalize (w3.alloc (Obj.cells #[.int .i64 p, .int .i64 q] 23)) = U at *
    generalize w3.heap.size = PB at *
    refine wp_region_held_drew (S := fun w' => w'.cell? ⟨PB, 0, none⟩ = some (.int .i64 p) ∧ w'.cell? ⟨PB, 1, none⟩ = some (.int .i64 q) ∧ w'.cell? ⟨G, 0, none⟩ = some (.int .i64 ee)) (by kernel_rfl) ⟨c0, c1, cg⟩ (fun hHeld => ?_)
    refine wpAnyH_take (i := 0) (oi := _) (v := ?_) rfl (by kernel_rfl) (by kernel_rfl) (by kernel_rfl) (fun _ _ _ h => h) (Or.inl ⟨by rfl, ?_⟩) (by assumption) ?_
    rotate_left
    · intro w hSw; obtain ⟨_, _, _⟩ := hSw; go_simp; (try with_reducible rfl)
    try change wpAnyH _ _ _ _ _ _ _ (Act.put _ (some 15) _) _
    try simp only [act_all]
    refine wpAnyH_take (i := 1) (oi := _) (v := ?_) rfl (by kernel_rfl) (by kernel_rfl) (by kernel_rfl) (fun _ _ _ h => h) (Or.inl ⟨by rfl, ?_⟩) (by assumption) ?_
    rotate_left
    · intro w hSw; obtain ⟨_, _, _⟩ := hSw; go_simp; (try with_reducible rfl)
    try change wpAnyH _ _ _ _ _ _ _ (Act.put _ (some 16) _) _
    try simp only [act_all]
    refine wpAnyH_take (i := 2) (oi := _) (v := ?_) rfl (by kernel_rfl) (by kernel_rfl) (by kernel_rfl) (fun _ _ _ h => h) (Or.inl ⟨by rfl, ?_⟩) (by assumption) ?_
    rotate_left
    · intro w hSw; obtain ⟨_, _, _⟩ := hSw; go_simp; (try with_reducible rfl)
    try change wpAnyH _ _ _ _ _ _ _ (Act.put _ (some 17) _) _
    try simp only [act_all]
    refine wpAnyH_take (i := 3) (oi := _) (v := ?_) rfl (by kernel_rfl) (by kernel_rfl) (by kernel_rfl) (fun _ _ _ h => h) (Or.inl ⟨by rfl, ?_⟩) (by assumption) ?_
    rotate_left
    · intro w hSw; obtain ⟨_, _, _⟩ := hSw; go_simp; (try with_reducible rfl)
    try change wpAnyH _ _ _ _ _ _ _ (Act.put _ (some 18) _) _
    try simp only [act_all]
    refine wpAnyH_take (i := 4) (oi := _) (v := ?_) rfl (by kernel_rfl) (by kernel_rfl) (by kernel_rfl) (fun _ _ _ h => h) (Or.inl ⟨by rfl, ?_⟩) (by assumption) ?_
    rotate_left
    · intro w hSw; obtain ⟨_, _, _⟩ := hSw; go_simp; (try with_reducible rfl)
    try change wpAnyH _ _ _ _ _ _ _ (Act.put _ (some 19) _) _
    try simp only [act_all]
    refine wpAnyH_ready (rs := [5]) (by kernel_rfl) (by simp) ?_
    refine AllReadyH.cons (o := _) rfl (fun K hK => ?_) AllReadyH.nil
    go_simp
    refine hK.out _ _ (by refine ⟨?_, ?_, ?_⟩ <;> go_cell) (fun hHeld => ?_)
    clear hK K
    try simp only [act_all]
    refine wpAnyH_take (i := 6) (oi := _) (v := ?_) rfl (by kernel_rfl) (by kernel_rfl) (by kernel_rfl) (fun _ _ _ h => h) (Or.inl ⟨by rfl, ?_⟩) (by assumption) ?_
    rotate_left
    · intro w hSw; obtain ⟨_, _, _⟩ := hSw; go_simp; (try with_reducible rfl)
    try change wpAnyH _ _ _ _ _ _ _ (Act.put _ (some 3) _) _
    try simp only [act_all]
    refine wpAnyH_done (by kernel_rfl) ?_ _
    have HDF := D4
    clear D4
    go_wp2_with fail
    refine bodyPost_ret (v := .tuple #[.agg #[.int .i64 p, .int .i64 q], .int .i64 ee]) (by simp [results, Try.results33, go_sem, *]) rfl ⟨by rw [HN.out], by go_grown⟩

set_option maxRecDepth 100000 in
set_option maxHeartbeats 4000000 in
theorem rRoot_any (a b : Int) (w : World) :
    Calls Try.prog 35 #[.agg #[.int .i64 a, .int .i64 b]] w fun e w' => e = OutS (rootO ⟨a, b⟩) ∧ Below w.heap.size w w' := by
  obtain ⟨SP, hsp⟩ : ∃ SP, rootO ⟨a, b⟩ = SP := ⟨_, rfl⟩
  have HSP := Lib.hid hsp
  rw [hsp]
  clear hsp
  obtain ⟨bb, hbb⟩ : ∃ bb, okS ⟨a, b⟩ = bb := ⟨_, rfl⟩
  have HBB := Lib.hid hbb
  clear hbb
  go_enter Try.func35, Try.ntmps35
  go_wp2_with fail
  refine (rValid_any a b _).mono ?_
  rw [HBB.out]
  rintro e w1 ⟨rfl, hb⟩
  have D1 : Below w.heap.size w w1 := Below.trans (by go_grown) (hb.mono (by first | omega | (simp; done) | (simp; omega)))
  have s1 : w.heap.size + 1 < w1.heap.size := by have hs := hb.size; (try simp at hs); omega
  have s1a : w.heap.size < w1.heap.size := by omega
  obtain ⟨k1, k2⟩ := bcl hb
  have x0 := (k1 (w.heap.size) 0 (by first | omega | (simp; done) | (simp; omega))).trans (by go_cell : _ = some (.int .i64 a))
  have x1 := (k1 (w.heap.size) 1 (by first | omega | (simp; done) | (simp; omega))).trans (by go_cell : _ = some (.int .i64 b))
  have d0 := (k1 (w.heap.size + 1) 0 (by first | omega | (simp; done) | (simp; omega))).trans (by go_cell : _ = some (.int .i64 0))
  have f0 := (k2 (w.heap.size + 1) 0 (by first | omega | (simp; done) | (simp; omega))).trans (by go_cell : _ = false)
  have d1 := (k1 (w.heap.size + 1) 1 (by first | omega | (simp; done) | (simp; omega))).trans (by go_cell : _ = some (.int .i64 0))
  have f1 := (k2 (w.heap.size + 1) 1 (by first | omega | (simp; done) | (simp; omega))).trans (by go_cell : _ = false)
  clear hb k1 k2
  cases bb with
  | false =>
    have HN : Hid (SP = .bad 50) := Lib.hid (by rw [← HSP.out]; unfold rootO; rw [if_neg (by rw [HBB.out]; decide)])
    go_wp2_with fail
    refine bodyPost_ret (v := .tuple #[.agg #[.int .i64 0, .int .i64 0], .int .i64 50]) (by simp [results, Try.results35, go_sem, *]) rfl ⟨by rw [HN.out]; rfl, by go_grown⟩
  | true =>
    by_cases hn : a < 0
    · have HN : Hid (SP = .bad 2) := Lib.hid (by rw [← HSP.out]; unfold rootO; rw [if_pos HBB.out]; exact if_pos hn)
      go_wp2_with fail
      refine bodyPost_ret (v := .tuple #[.agg #[.int .i64 0, .int .i64 0], .int .i64 2]) (by simp [results, Try.results35, go_sem, *]) rfl ⟨by rw [HN.out]; rfl, by go_grown⟩
    obtain ⟨rr, hrr⟩ : ∃ rr, rn 0 (.ok (rootS ⟨a, b⟩)) = rr := ⟨_, rfl⟩
    have HR := Lib.hid hrr
    obtain ⟨⟨p, q⟩, ee⟩ := rr
    have HN : Hid (OutS SP = .returned (.tuple #[.agg #[.int .i64 p, .int .i64 q], .int .i64 ee])) := Lib.hid (by rw [← HSP.out]; unfold rootO; rw [if_pos HBB.out]; simp only; rw [if_neg hn]; exact rn_OutS hrr)
    clear hrr
    go_wp2_with fail
    have hb0 : Below w1.heap.size w1 (w1.alloc (Obj.cells #[.int .i64 0] 71)) := (Below.refl _ _).alloc (Nat.le_refl _) _
    have q0 : (w1.alloc (Obj.cells #[.int .i64 0] 71)).cell? ⟨w1.heap.size, 0, none⟩ = some (.int .i64 0) := by go_cell
    have q1 : (w1.alloc (Obj.cells #[.int .i64 0] 71)).frozen? ⟨w1.heap.size, 0, none⟩ = false := by go_cell
    have qz : w1.heap.size < (w1.alloc (Obj.cells #[.int .i64 0] 71)).heap.size := by simp
    have D2 := D1.trans (hb0.mono D1.size)
    have yd0 := (hb0.cell (p := ⟨w.heap.size + 1, 0, none⟩) (by simp only; omega)).trans d0
    have yf0 := (hb0.frozen (p := ⟨w.heap.size + 1, 0, none⟩) (by simp only; omega)).trans f0
    have yd1 := (hb0.cell (p := ⟨w.heap.size + 1, 1, none⟩) (by simp only; omega)).trans d1
    have yf1 := (hb0.frozen (p := ⟨w.heap.size + 1, 1, none⟩) (by simp only; omega)).trans f1
    clear hb0 D1 d0 d1 f0 f1 x0 x1
    generalize (w1.alloc (Obj.cells #[.int .i64 0] 71)) = W at *
    obtain ⟨G, hG⟩ : ∃ G, w1.heap.size = G := ⟨_, rfl⟩
    rw [hG] at s1 s1a q0 q1 qz ⊢
    clear hG
    refine (rRootW_any a b 0 G _ HBB.out (by omega) q0 q1).mono ?_
    rw [HR.out]
    rintro e w3 ⟨he, hb⟩
    obtain rfl : e = .returned (.agg #[.int .i64 p, .int .i64 q]) := he
    have D3 := D2.trans (hb.below (by omega) D2.size)
    have s3 : G < w3.heap.size := by have := hb.size; omega
    have s3' : w.heap.size + 1 < w3.heap.size := by omega
    obtain ⟨k1, k2⟩ := hb.cells
    have g0 := hb.cell
    have zd0 := (k1 (w.heap.size + 1) 0 (by omega) (by omega)).trans yd0
    have zf0 := (k2 (w.heap.size + 1) 0 (by omega) (by omega)).trans yf0
    have zd1 := (k1 (w.heap.size + 1) 1 (by omega) (by omega)).trans yd1
    have zf1 := (k2 (w.heap.size + 1) 1 (by omega) (by omega)).trans yf1
    clear hb k1 k2 D2 q0 q1 qz yd0 yd1 yf0 yf1
    go_upto_region 7 with fail
    have b3 : Below w3.heap.size w3 (w3.alloc (Obj.cells #[.int .i64 p, .int .i64 q] 23)) := bal (Below.refl _ _) _
    have D4 := D3.trans (b3.mono D3.size)
    have c0 : (w3.alloc (Obj.cells #[.int .i64 p, .int .i64 q] 23)).cell? ⟨w3.heap.size, 0, none⟩ = some (.int .i64 p) := by go_cell
    have c1 : (w3.alloc (Obj.cells #[.int .i64 p, .int .i64 q] 23)).cell? ⟨w3.heap.size, 1, none⟩ = some (.int .i64 q) := by go_cell
    have cg := (b3.cell (p := ⟨G, 0, none⟩) (by simp only; omega)).trans g0
    have ed0 := (b3.cell (p := ⟨w.heap.size + 1, 0, none⟩) (by simp only; omega)).trans zd0
    have ef0 := (b3.frozen (p := ⟨w.heap.size + 1, 0, none⟩) (by simp only; omega)).trans zf0
    have ed1 := (b3.cell (p := ⟨w.heap.size + 1, 1, none⟩) (by simp only; omega)).trans zd1
    have ef1 := (b3.frozen (p := ⟨w.heap.size + 1, 1, none⟩) (by simp only; omega)).trans zf1
    have n0 : ¬ w3.heap.size = w.heap.size + 1 := by omega
    have n1 : ¬ G = w.heap.size + 1 := by omega
    have sE : w.heap.size + 1 < (w3.alloc (Obj.cells #[.int .i64 p, .int .i64 q] 23)).heap.size := by simp; omega
    clear b3 D3 zd0 zd1 zf0 zf1 g0
    generalize (w3.alloc (Obj.cells #[.int .i64 p, .int .i64 q] 23)) = U at *
    generalize w3.heap.size = PB at *
    refine wp_region_held_drew (S := fun w' => w'.cell? ⟨PB, 0, none⟩ = some (.int .i64 p) ∧ w'.cell? ⟨PB, 1, none⟩ = some (.int .i64 q) ∧ w'.cell? ⟨G, 0, none⟩ = some (.int .i64 ee)) (by kernel_rfl) ⟨c0, c1, cg⟩ (fun hHeld => ?_)
    refine wpAnyH_take (i := 0) (oi := _) (v := ?_) rfl (by kernel_rfl) (by kernel_rfl) (by kernel_rfl) (fun _ _ _ h => h) (Or.inl ⟨by rfl, ?_⟩) (by assumption) ?_
    rotate_left
    · intro w hSw; obtain ⟨_, _, _⟩ := hSw; go_simp; (try with_reducible rfl)
    try change wpAnyH _ _ _ _ _ _ _ (Act.put _ (some 19) _) _
    try simp only [act_all]
    refine wpAnyH_take (i := 1) (oi := _) (v := ?_) rfl (by kernel_rfl) (by kernel_rfl) (by kernel_rfl) (fun _ _ _ h => h) (Or.inl ⟨by rfl, ?_⟩) (by assumption) ?_
    rotate_left
    · intro w hSw; obtain ⟨_, _, _⟩ := hSw; go_simp; (try with_reducible rfl)
    try change wpAnyH _ _ _ _ _ _ _ (Act.put _ (some 20) _) _
    try simp only [act_all]
    refine wpAnyH_take (i := 2) (oi := _) (v := ?_) rfl (by kernel_rfl) (by kernel_rfl) (by kernel_rfl) (fun _ _ _ h => h) (Or.inl ⟨by rfl, ?_⟩) (by assumption) ?_
    rotate_left
    · intro w hSw; obtain ⟨_, _, _⟩ := hSw; go_simp; (try with_reducible rfl)
    try change wpAnyH _ _ _ _ _ _ _ (Act.put _ (some 21) _) _
    try simp only [act_all]
    refine wpAnyH_take (i := 3) (oi := _) (v := ?_) rfl (by kernel_rfl) (by kernel_rfl) (by kernel_rfl) (fun _ _ _ h => h) (Or.inl ⟨by rfl, ?_⟩) (by assumption) ?_
    rotate_left
    · intro w hSw; obtain ⟨_, _, _⟩ := hSw; go_simp; (try with_reducible rfl)
    try change wpAnyH _ _ _ _ _ _ _ (Act.put _ (some 22) _) _
    try simp only [act_all]
    refine wpAnyH_take (i := 4) (oi := _) (v := ?_) rfl (by kernel_rfl) (by kernel_rfl) (by kernel_rfl) (fun _ _ _ h => h) (Or.inl ⟨by rfl, ?_⟩) (by assumption) ?_
    rotate_left
    · intro w hSw; obtain ⟨_, _, _⟩ := hSw; go_simp; (try with_reducible rfl)
    try change wpAnyH _ _ _ _ _ _ _ (Act.put _ (some 23) _) _
    try simp only [act_all]
    refine wpAnyH_ready (rs := [5]) (by kernel_rfl) (by simp) ?_
    refine AllReadyH.cons (o := _) rfl (fun K hK => ?_) AllReadyH.nil
    go_simp
    refine hK.out _ _ (by refine ⟨?_, ?_, ?_⟩ <;> go_cell) (fun hHeld => ?_)
    clear hK K
    try simp only [act_all]
    refine wpAnyH_take (i := 6) (oi := _) (v := ?_) rfl (by kernel_rfl) (by kernel_rfl) (by kernel_rfl) (fun _ _ _ h => h) (Or.inl ⟨by rfl, ?_⟩) (by assumption) ?_
    rotate_left
    · intro w hSw; obtain ⟨_, _, _⟩ := hSw; go_simp; (try with_reducible rfl)
    try change wpAnyH _ _ _ _ _ _ _ (Act.put _ (some 3) _) _
    try simp only [act_all]
    refine wpAnyH_done (by kernel_rfl) ?_ _
    have HDF := D4
    clear D4
    go_wp2_with fail
    refine bodyPost_ret (v := .tuple #[.agg #[.int .i64 p, .int .i64 q], .int .i64 ee]) (by simp [results, Try.results35, go_sem, *]) rfl ⟨by rw [HN.out], by go_grown⟩
end Go.Proofs.Ytilclpldfoifkaa
