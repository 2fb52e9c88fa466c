import Derived.Test.YtgbnpnenejgnnaaPn5
import Derived.Test.YtgbnpnenejgnnaaR5o
import Derived.Deep.DeepCutAuto
namespace Go.Proofs.Ytgbnpnenejgnnaa
open Go.RowKit Encl
theorem rn_OutS {o : Out Sp} {p q ee : Int} (h : rn 0 o = (⟨p, q⟩, ee)) : OutS o = .returned (.tuple #[.agg #[.int .i64 p, .int .i64 q], .int .i64 ee]) := by
  cases o with
  | ok s => rw [show rn 0 (Out.ok s) = (s, 0) from rfl] at h; obtain ⟨h1, h2⟩ := Prod.mk.inj h; subst h1; subst h2; rfl
  | bad k => rw [show rn 0 (Out.bad k) = (S0, k) from rfl] at h; obtain ⟨h1, h2⟩ := Prod.mk.inj h; obtain ⟨h3, h4⟩ := Sp.mk.inj h1; subst h2; rw [← h3, ← h4]; rfl


set_option maxRecDepth 100000 in
set_option maxHeartbeats 4000000 in
theorem rPart_any (a d : Int) (w : World) (ha : -1000000000 ≤ a ∧ a ≤ 1000000000) (hd : 1 ≤ d ∧ d ≤ 1000000000) :
    Calls Try.prog 54 #[.int .i64 a, .int .i64 d] w fun e w' => e = OutS (scS a 1073741824 d) ∧ Below w.heap.size w w' := by
  obtain ⟨m1, hm1⟩ : ∃ m, a * 1073741824 / d = m := ⟨_, rfl⟩
  obtain ⟨m2, hm2⟩ : ∃ m, -a * 1073741824 / d = m := ⟨_, rfl⟩
  have HS : Hid (scS a 1073741824 d = inR ⟨m1, -m2⟩) := Lib.hid (by unfold scS fl ce; rw [← hm1, ← hm2, Int.neg_mul])
  rw [HS.out]
  have HB1 : Hid (∀ w : World, Calls Try.prog 104 #[.int .i64 (a * 1073741824), .int .i64 d] w fun e w' => e = .returned (.int .i64 m1) ∧ Below w.heap.size w w') := Lib.hid (fun w => by rw [← hm1]; exact rBelow_pos _ _ w (by omega) (by omega) (by omega) (by omega))
  have HB2 : Hid (∀ w : World, Calls Try.prog 104 #[.int .i64 (-a * 1073741824), .int .i64 d] w fun e w' => e = .returned (.int .i64 m2) ∧ Below w.heap.size w w') := Lib.hid (fun w => by rw [← hm2]; exact rBelow_pos _ _ w (by omega) (by omega) (by omega) (by omega))
  have wm2 : wrap64 (-m2) = -m2 := by
    have e1 := Int.mul_ediv_add_emod (-a * 1073741824) d
    have l0 := Int.emod_nonneg (-a * 1073741824) (show d ≠ 0 by omega)
    have l1 := Int.emod_lt_of_pos (-a * 1073741824) (show 0 < d by omega)
    have : m2.natAbs ≤ (-a * 1073741824).natAbs := by
      rw [← hm2]
      exact Int.natAbs_ediv_le_natAbs _ _
    simp only [wrap64]; omega
  have wa : wrap64 (a * 1073741824) = a * 1073741824 := by simp only [wrap64]; omega
  have wn : wrap64 (-a) = -a := by simp only [wrap64]; omega
  have wna : wrap64 (-a * 1073741824) = -a * 1073741824 := by simp only [wrap64]; omega
  obtain ⟨rr, hrr⟩ : ∃ rr, rn 0 (inR ⟨m1, -m2⟩) = rr := ⟨_, rfl⟩
  have HR := Lib.hid hrr
  obtain ⟨⟨p, q⟩, ee⟩ := rr
  have HN : Hid (OutS (inR ⟨m1, -m2⟩) = .returned (.tuple #[.agg #[.int .i64 p, .int .i64 q], .int .i64 ee])) := Lib.hid (rn_OutS hrr)
  rw [HN.out]
  have n1 : ¬ d < 1 := by omega
  have n2 : ¬ 1000000000 < d := by omega
  have n3 : ¬ a < -1000000000 := by omega
  have n4 : ¬ 1000000000 < a := by omega
  clear ha hd hrr hm1 hm2
  go_enter Try.func54, Try.ntmps54
  go_wp2_with fail
  have hs0 : w.heap.size < ((w.alloc (Obj.cells #[.int .i64 0, .int .i64 0] 23)).alloc (Obj.cells #[.int .i64 0] 82)).heap.size := by simp; omega
  refine (HB1.out _).mono ?_
  rintro e w1 ⟨rfl, hb⟩
  have D1 : Below w.heap.size w w1 := Below.trans (by go_grown) (hb.mono (by first | omega | (simp; done) | (simp; omega)))
  have s1 : w.heap.size + 1 < w1.heap.size := by have hs := hb.size; (try simp at hs); omega
  obtain ⟨k1, k2⟩ := bcl hb
  have d0 := (k1 w.heap.size 0 (by first | omega | (simp; done) | (simp; omega))).trans (by go_cell : _ = some (.int .i64 0))
  have f0 := (k2 w.heap.size 0 (by first | omega | (simp; done) | (simp; omega))).trans (by go_cell : _ = false)
  have d1 := (k1 w.heap.size 1 (by first | omega | (simp; done) | (simp; omega))).trans (by go_cell : _ = some (.int .i64 0))
  have f1 := (k2 w.heap.size 1 (by first | omega | (simp; done) | (simp; omega))).trans (by go_cell : _ = false)
  have gc := (k1 (w.heap.size + 1) 0 (by first | omega | (simp; done) | (simp; omega))).trans (by go_cell : _ = some (.int .i64 0))
  have gf := (k2 (w.heap.size + 1) 0 (by first | omega | (simp; done) | (simp; omega))).trans (by go_cell : _ = false)
  clear hb k1 k2 hs0
  go_wp2_with fail
  refine (HB2.out _).mono ?_
  rintro e w2 ⟨rfl, hb⟩
  have D2 := D1.trans (hb.mono D1.size)
  have s2 : w.heap.size + 1 < w2.heap.size := by have hs := hb.size; omega
  have s2a : w.heap.size < w2.heap.size := by omega
  obtain ⟨k1, k2⟩ := bcl hb
  have dd0 := (k1 w.heap.size 0 (by omega)).trans d0
  have ff0 := (k2 w.heap.size 0 (by omega)).trans f0
  have dd1 := (k1 w.heap.size 1 (by omega)).trans d1
  have ff1 := (k2 w.heap.size 1 (by omega)).trans f1
  have gd := (k1 (w.heap.size + 1) 0 (by omega)).trans gc
  have gg := (k2 (w.heap.size + 1) 0 (by omega)).trans gf
  clear hb k1 k2 D1 s1 d0 d1 f0 f1 gc gf
  go_wp2_with fail
  refine (rSpan_any m1 (-m2) 0 (w.heap.size + 1) _ gd gg).mono ?_
  rw [HR.out]
  rintro e w3 ⟨he, hb⟩
  obtain rfl : e = .returned (.agg #[.int .i64 p, .int .i64 q]) := he
  have D3 := D2.trans (hb.below (by omega) D2.size)
  have s3 : w.heap.size + 1 < w3.heap.size := by have := hb.size; omega
  have s3a : w.heap.size < w3.heap.size := by omega
  have z0 := (hb.cells.1 w.heap.size 0 (by omega) (by omega)).trans dd0
  have y0 := (hb.cells.2 w.heap.size 0 (by omega) (by omega)).trans ff0
  have z1 := (hb.cells.1 w.heap.size 1 (by omega) (by omega)).trans dd1
  have y1 := (hb.cells.2 w.heap.size 1 (by omega) (by omega)).trans ff1
  have g0 := hb.cell
  clear hb D2 s2 s2a dd0 dd1 ff0 ff1 gd gg
  go_upto_region 5 with fail
  have b3 : Below w3.heap.size w3 (w3.alloc (Obj.cells #[.int .i64 p, .int .i64 q] 23)) := bal (Below.refl _ _) _
  have D4 := D3.trans (b3.mono D3.size)
  have c0 : (w3.alloc (Obj.cells #[.int .i64 p, .int .i64 q] 23)).cell? ⟨w3.heap.size, 0, none⟩ = some (.int .i64 p) := by go_cell
  have c1 : (w3.alloc (Obj.cells #[.int .i64 p, .int .i64 q] 23)).cell? ⟨w3.heap.size, 1, none⟩ = some (.int .i64 q) := by go_cell
  have cg := (b3.cell (p := ⟨w.heap.size + 1, 0, none⟩) s3).trans g0
  have ed0 := (b3.cell (p := ⟨w.heap.size, 0, none⟩) s3a).trans z0
  have ef0 := (b3.frozen (p := ⟨w.heap.size, 0, none⟩) s3a).trans y0
  have ed1 := (b3.cell (p := ⟨w.heap.size, 1, none⟩) s3a).trans z1
  have ef1 := (b3.frozen (p := ⟨w.heap.size, 1, none⟩) s3a).trans y1
  have n5 : ¬ w3.heap.size = w.heap.size := by omega
  have n6 : ¬ w.heap.size + 1 = w.heap.size := by omega
  have sE : w.heap.size < (w3.alloc (Obj.cells #[.int .i64 p, .int .i64 q] 23)).heap.size := by simp; omega
  clear b3 D3 z0 z1 y0 y1 g0
  generalize (w3.alloc (Obj.cells #[.int .i64 p, .int .i64 q] 23)) = U at *
  generalize w3.heap.size = PB at *
  refine wp_region_held_drew (S := fun w' => w'.cell? ⟨PB, 0, none⟩ = some (.int .i64 p) ∧ w'.cell? ⟨PB, 1, none⟩ = some (.int .i64 q) ∧ w'.cell? ⟨w.heap.size + 1, 0, none⟩ = some (.int .i64 ee)) (by kernel_rfl) ⟨c0, c1, cg⟩ (fun hHeld => ?_)
  refine wpAnyH_take (i := 0) (oi := _) (v := ?_) rfl (by kernel_rfl) (by kernel_rfl) (by kernel_rfl) (fun _ _ _ h => h) (Or.inl ⟨by rfl, ?_⟩) (by assumption) ?_
  rotate_left
  · intro w hSw; obtain ⟨_, _, _⟩ := hSw; go_simp; (try with_reducible rfl)
  try change wpAnyH _ _ _ _ _ _ _ (Act.put _ (some 37) _) _
  try simp only [act_all]
  refine wpAnyH_take (i := 1) (oi := _) (v := ?_) rfl (by kernel_rfl) (by kernel_rfl) (by kernel_rfl) (fun _ _ _ h => h) (Or.inl ⟨by rfl, ?_⟩) (by assumption) ?_
  rotate_left
  · intro w hSw; obtain ⟨_, _, _⟩ := hSw; go_simp; (try with_reducible rfl)
  try change wpAnyH _ _ _ _ _ _ _ (Act.put _ (some 38) _) _
  try simp only [act_all]
  refine wpAnyH_take (i := 2) (oi := _) (v := ?_) rfl (by kernel_rfl) (by kernel_rfl) (by kernel_rfl) (fun _ _ _ h => h) (Or.inl ⟨by rfl, ?_⟩) (by assumption) ?_
  rotate_left
  · intro w hSw; obtain ⟨_, _, _⟩ := hSw; go_simp; (try with_reducible rfl)
  try change wpAnyH _ _ _ _ _ _ _ (Act.put _ (some 39) _) _
  try simp only [act_all]
  refine wpAnyH_take (i := 3) (oi := _) (v := ?_) rfl (by kernel_rfl) (by kernel_rfl) (by kernel_rfl) (fun _ _ _ h => h) (Or.inl ⟨by rfl, ?_⟩) (by assumption) ?_
  rotate_left
  · intro w hSw; obtain ⟨_, _, _⟩ := hSw; go_simp; (try with_reducible rfl)
  try change wpAnyH _ _ _ _ _ _ _ (Act.put _ (some 40) _) _
  try simp only [act_all]
  refine wpAnyH_take (i := 4) (oi := _) (v := ?_) rfl (by kernel_rfl) (by kernel_rfl) (by kernel_rfl) (fun _ _ _ h => h) (Or.inl ⟨by rfl, ?_⟩) (by assumption) ?_
  rotate_left
  · intro w hSw; obtain ⟨_, _, _⟩ := hSw; go_simp; (try with_reducible rfl)
  try change wpAnyH _ _ _ _ _ _ _ (Act.put _ (some 41) _) _
  try simp only [act_all]
  refine wpAnyH_ready (rs := [5]) (by kernel_rfl) (by simp) ?_
  refine AllReadyH.cons (o := _) rfl (fun K hK => ?_) AllReadyH.nil
  go_simp
  refine hK.out _ _ (by refine ⟨?_, ?_, ?_⟩ <;> go_cell) (fun hHeld => ?_)
  clear hK K
  try simp only [act_all]
  refine wpAnyH_take (i := 6) (oi := _) (v := ?_) rfl (by kernel_rfl) (by kernel_rfl) (by kernel_rfl) (fun _ _ _ h => h) (Or.inl ⟨by rfl, ?_⟩) (by assumption) ?_
  rotate_left
  · intro w hSw; obtain ⟨_, _, _⟩ := hSw; go_simp; (try with_reducible rfl)
  try change wpAnyH _ _ _ _ _ _ _ (Act.put _ (some 5) _) _
  try simp only [act_all]
  refine wpAnyH_done (by kernel_rfl) ?_ _
  have HDF := D4
  clear D4
  go_wp2_with fail
  refine bodyPost_ret (v := .tuple #[.agg #[.int .i64 p, .int .i64 q], .int .i64 ee]) (by simp [results, Try.results54, go_sem, *]) rfl ⟨rfl, by go_grown⟩

end Go.Proofs.Ytgbnpnenejgnnaa

namespace Encl
def prtO (a d : Int) : Out Sp := if -1000000000 ≤ a ∧ a ≤ 1000000000 ∧ 1 ≤ d ∧ d ≤ 1000000000 then scS a 1073741824 d else .bad 2
end Encl
namespace Go.Proofs.Ytgbnpnenejgnnaa
open Go.RowKit Encl
theorem OutS_form' (o : Out Sp) : ∃ p q er : Int, OutS o = .returned (.tuple #[.agg #[.int .i64 p, .int .i64 q], .int .i64 er]) := by
  cases o with
  | ok x => exact ⟨_, _, _, rfl⟩
  | bad k => exact ⟨_, _, _, rfl⟩
set_option maxRecDepth 100000 in
set_option maxHeartbeats 4000000 in
theorem ePart_bad (a d : Int) (w : World) (h : ¬ (-1000000000 ≤ a ∧ a ≤ 1000000000 ∧ 1 ≤ d ∧ d ≤ 1000000000)) :
    Calls Try.prog 52 #[.int .i64 a, .int .i64 d] w fun e w' => e = .returned (.tuple #[.agg #[.int .i64 0, .int .i64 0], .int .i64 2]) ∧ Below w.heap.size w w' := by
  have hc : (d < 1) ∨ (¬ d < 1 ∧ 1000000000 < d) ∨ (¬ d < 1 ∧ ¬ 1000000000 < d ∧ a < -1000000000) ∨ (¬ d < 1 ∧ ¬ 1000000000 < d ∧ ¬ a < -1000000000 ∧ 1000000000 < a) := by omega
  clear h
  rcases hc with n1 | ⟨n1, n2⟩ | ⟨n1, n2, n3⟩ | ⟨n1, n2, n3, n4⟩
  · go_enter Try.func52, Try.ntmps52
    go_wp2_with fail
    refine bodyPost_ret (v := .tuple #[.agg #[.int .i64 0, .int .i64 0], .int .i64 2]) (by simp [results, Try.results52, go_sem, *]) rfl ⟨rfl, by go_grown⟩
  · go_enter Try.func52, Try.ntmps52
    go_wp2_with fail
    refine bodyPost_ret (v := .tuple #[.agg #[.int .i64 0, .int .i64 0], .int .i64 2]) (by simp [results, Try.results52, go_sem, *]) rfl ⟨rfl, by go_grown⟩
  · go_enter Try.func52, Try.ntmps52
    go_wp2_with fail
    refine bodyPost_ret (v := .tuple #[.agg #[.int .i64 0, .int .i64 0], .int .i64 2]) (by simp [results, Try.results52, go_sem, *]) rfl ⟨rfl, by go_grown⟩
  · go_enter Try.func52, Try.ntmps52
    go_wp2_with fail
    refine bodyPost_ret (v := .tuple #[.agg #[.int .i64 0, .int .i64 0], .int .i64 2]) (by simp [results, Try.results52, go_sem, *]) rfl ⟨rfl, by go_grown⟩
theorem ePart_all (a d : Int) (w : World) :
    Calls Try.prog 52 #[.int .i64 a, .int .i64 d] w fun e w' => e = OutS (prtO a d) ∧ Below w.heap.size w w' := by
  by_cases h : -1000000000 ≤ a ∧ a ≤ 1000000000 ∧ 1 ≤ d ∧ d ≤ 1000000000
  · rw [show prtO a d = scS a 1073741824 d from if_pos h]
    exact Part_any a d w ⟨h.1, h.2.1⟩ h.2.2
  · rw [show prtO a d = .bad 2 from if_neg h]
    exact ePart_bad a d w h
set_option maxRecDepth 100000 in
set_option maxHeartbeats 4000000 in
theorem rPart_bad (a d : Int) (w : World) (h : ¬ (-1000000000 ≤ a ∧ a ≤ 1000000000 ∧ 1 ≤ d ∧ d ≤ 1000000000)) :
    Calls Try.prog 54 #[.int .i64 a, .int .i64 d] w fun e w' => e = .returned (.tuple #[.agg #[.int .i64 0, .int .i64 0], .int .i64 2]) ∧ Below w.heap.size w w' := by
  have hc : (d < 1) ∨ (¬ d < 1 ∧ 1000000000 < d) ∨ (¬ d < 1 ∧ ¬ 1000000000 < d ∧ a < -1000000000) ∨ (¬ d < 1 ∧ ¬ 1000000000 < d ∧ ¬ a < -1000000000 ∧ 1000000000 < a) := by omega
  clear h
  rcases hc with n1 | ⟨n1, n2⟩ | ⟨n1, n2, n3⟩ | ⟨n1, n2, n3, n4⟩
  · go_enter Try.func54, Try.ntmps54
    go_wp2_with fail
    refine bodyPost_ret (v := .tuple #[.agg #[.int .i64 0, .int .i64 0], .int .i64 2]) (by simp [results, Try.results54, go_sem, *]) rfl ⟨rfl, by go_grown⟩
  · go_enter Try.func54, Try.ntmps54
    go_wp2_with fail
    refine bodyPost_ret (v := .tuple #[.agg #[.int .i64 0, .int .i64 0], .int .i64 2]) (by simp [results, Try.results54, go_sem, *]) rfl ⟨rfl, by go_grown⟩
  · go_enter Try.func54, Try.ntmps54
    go_wp2_with fail
    refine bodyPost_ret (v := .tuple #[.agg #[.int .i64 0, .int .i64 0], .int .i64 2]) (by simp [results, Try.results54, go_sem, *]) rfl ⟨rfl, by go_grown⟩
  · go_enter Try.func54, Try.ntmps54
    go_wp2_with fail
    refine bodyPost_ret (v := .tuple #[.agg #[.int .i64 0, .int .i64 0], .int .i64 2]) (by simp [results, Try.results54, go_sem, *]) rfl ⟨rfl, by go_grown⟩
theorem rPart_all (a d : Int) (w : World) :
    Calls Try.prog 54 #[.int .i64 a, .int .i64 d] w fun e w' => e = OutS (prtO a d) ∧ Below w.heap.size w w' := by
  by_cases h : -1000000000 ≤ a ∧ a ≤ 1000000000 ∧ 1 ≤ d ∧ d ≤ 1000000000
  · rw [show prtO a d = scS a 1073741824 d from if_pos h]
    exact rPart_any a d w ⟨h.1, h.2.1⟩ h.2.2
  · rw [show prtO a d = .bad 2 from if_neg h]
    exact rPart_bad a d w h
end Go.Proofs.Ytgbnpnenejgnnaa
