import Derived.Test.YtjodjfllgofkaaaCl
namespace Prm
open Amp
/-- How many items of each kind there are among the first k, with the greatest column at 0. -/
def cntF (f : Nat → It) : Nat → Nat → Int
  | 0, _ => 0
  | k + 1, j => if j = 0 then (if cntF f k 0 < colF f k then colF f k else cntF f k 0) else if j = (f k).kind.toNat then cntF f k j + 1 else cntF f k j
theorem cntF_bd (f : Nat → It) (k : Nat) : ∀ j, 0 ≤ cntF f k j ∧ cntF f k j ≤ k := by
  induction k with
  | zero => intro j; simp [cntF]
  | succ k ih =>
    intro j
    have h1 := ih j
    have h0 := ih 0
    have h2 := colF_bd f k
    simp only [cntF]
    repeat' split
    all_goals omega
end Prm
namespace Go.Proofs.Ytjodjfllgofkaaa
open Go.RowKit Prm Amp

theorem fresh4 (w : World) (t : TypeId) : Intw (w.alloc (.cells #[.int .i64 0, .int .i64 0, .int .i64 0, .int .i64 0] t)) w.heap.size 4 (fun _ => 0) := by
  intro i hi
  rcases (show i = 0 ∨ i = 1 ∨ i = 2 ∨ i = 3 by omega) with rfl | rfl | rfl | rfl <;> exact ⟨by go_cell, by go_cell⟩

set_option maxRecDepth 100000 in
set_option maxHeartbeats 1000000 in
theorem count_no (N : Int) (len cap : Nat) (ao : Option Addr) (f : Nat → It) (w : World) (hlen : len ≤ 9223372036854775807) (hc : Its w ao len f) (ha : askS N len f ≠ 0) :
    Calls Try.prog 20 #[.int .i64 N, .slice ao len cap] w fun e w' => e = .returned (.tuple #[.agg #[.int .i64 0, .int .i64 0, .int .i64 0, .int .i64 0], .int .i64 (askS N len f)]) ∧ Below w.heap.size w w' := by
  have HC := Lib.hid hc
  have HNE := Lib.hid ha
  obtain ⟨er, her⟩ : ∃ er, askS N len f = er := ⟨_, rfl⟩
  rw [her] at ha
  rw [her]
  have HER := Lib.hid her
  have hb0 : (er == 0) = false := beq_eq_false_iff_ne.2 ha
  have hb1 : (er != 0) = true := bne_iff_ne.2 ha
  clear hc ha her
  go_enter Try.func20, Try.ntmps20
  go_wp2_with fail
  refine (columns_no N len cap ao f _ hlen (HC.out.keep (by go_grown)) HNE.out).mono ?_
  rintro e w1 ⟨rfl, hb⟩
  rw [HER.out]
  obtain ⟨ka, kb⟩ := bcl hb
  have c0 : w1.cell? ⟨w.heap.size, 0, none⟩ = some (.int .i64 0) := (ka _ _ (by simp)).trans (by go_cell)
  have c1 : w1.cell? ⟨w.heap.size, 1, none⟩ = some (.int .i64 0) := (ka _ _ (by simp)).trans (by go_cell)
  have c2 : w1.cell? ⟨w.heap.size, 2, none⟩ = some (.int .i64 0) := (ka _ _ (by simp)).trans (by go_cell)
  have c3 : w1.cell? ⟨w.heap.size, 3, none⟩ = some (.int .i64 0) := (ka _ _ (by simp)).trans (by go_cell)
  have f0 : w1.frozen? ⟨w.heap.size, 0, none⟩ = false := (kb _ _ (by simp)).trans (by go_cell)
  have f1 : w1.frozen? ⟨w.heap.size, 1, none⟩ = false := (kb _ _ (by simp)).trans (by go_cell)
  have f2 : w1.frozen? ⟨w.heap.size, 2, none⟩ = false := (kb _ _ (by simp)).trans (by go_cell)
  have f3 : w1.frozen? ⟨w.heap.size, 3, none⟩ = false := (kb _ _ (by simp)).trans (by go_cell)
  have D1 : Below w.heap.size w w1 := ((Below.refl _ w).alloc (Nat.le_refl _) _).trans (hb.mono (by simp))
  have hs1 : w.heap.size < w1.heap.size := by have := hb.size; simp at this; omega
  clear hb ka kb
  go_wp2_with fail
  refine bodyPost_ret (v := .tuple #[.agg #[.int .i64 0, .int .i64 0, .int .i64 0, .int .i64 0], .int .i64 er]) (by simp [results, Try.results20, go_sem, *]) rfl ⟨rfl, by go_grown⟩

set_option maxRecDepth 100000 in
set_option maxHeartbeats 4000000 in
theorem count_ok (N : Int) (len cap : Nat) (ao : Option Addr) (f : Nat → It) (w : World) (hc : Its w ao len f) (ha : askS N len f = 0) :
    Calls Try.prog 20 #[.int .i64 N, .slice ao len cap] w fun e w' => e = .returned (.tuple #[.agg #[.int .i64 (cntF f len 0), .int .i64 (cntF f len 1), .int .i64 (cntF f len 2), .int .i64 (cntF f len 3)], .int .i64 0]) ∧ Below w.heap.size w w' := by
  have HC := Lib.hid hc
  have HA := Lib.hid ha
  obtain ⟨_, hN6, hl5, hfit⟩ := askOk ha
  have HF := Lib.hid hfit
  have hl5' : (len : Int) ≤ 5000 := by omega
  clear hc ha hfit
  go_enter Try.func20, Try.ntmps20
  go_wp2_with fail
  refine (columns_ok N len cap ao f _ (HC.out.keep (by go_grown)) HA.out).mono ?_
  rintro e w1 ⟨⟨lv, rfl, hown⟩, hb⟩
  have HR1 : Hid (Intw w1 w.heap.size 4 (fun _ => 0)) := Lib.hid ((fresh4 w _).keep hb)
  have HO1 := Lib.hid hown
  have D1 : Below w.heap.size w w1 := ((Below.refl _ w).alloc (Nat.le_refl _) _).trans (hb.mono (by simp))
  have HD1 := Lib.hid D1
  have hs1 : w.heap.size < w1.heap.size := by have := hb.size; simp at this; omega
  clear hb hown D1
  go_wp2_with fail
  go_loopw [9, 10, 23] (fun _ _ i wr => ∃ k : Nat, i = .int .i64 k ∧ k ≤ len ∧ Hid (Intw wr w1.heap.size 4 (cntF f k)) ∧ Below w1.heap.size w1 wr ∧ w1.heap.size < wr.heap.size) (fun _ _ i _ => len - (intOf i).toNat)
  case atStart => exact ⟨0, rfl, Nat.zero_le _, Lib.hid ((fresh4 w1 _).congr fun _ _ => rfl), by go_grown, by simp⟩
  case round =>
    obtain ⟨k, rfl, hk, HK, hbel, hsz⟩ := hrel
    by_cases hlt : k < len
    · have hlt' : (k : Int) < (len : Int) := by omega
      obtain ⟨b, o, rfl, hcell⟩ := ((HC.out.keep HD1.out).keep hbel) (by omega)
      obtain ⟨g, gcap, rfl, -, hgs, -, -⟩ := own_fm HO1.out (by omega)
      have hgi : Intw w1 g len (colF f) := Intw.of_own HO1.out fun i hi => cellsI_get _ hi
      have hgk := (hgi.keep hbel k hlt).1
      obtain ⟨⟨kd, at', m, nm⟩, hx⟩ : ∃ x : It, f k = x := ⟨_, rfl⟩
      have hfk := itF_yes (fitAt HF.out hlt)
      have hz := hcell k hlt
      rw [hx] at hz hfk
      obtain ⟨c0, c1, c2, c3, c4⟩ := hz
      simp only at c0 c1 c2 c3 c4 hfk
      obtain ⟨hk1, hk3, -⟩ := hfk
      obtain ⟨q, rfl⟩ : ∃ q : Nat, kd = q := ⟨kd.toNat, by omega⟩
      have hq1 : 1 ≤ q := by omega
      have hq4 : q < 4 := by omega
      have hq4' : (q : Int) < 4 := by omega
      have hqn : ¬ q = 0 := by omega
      have hqn' : ¬ 0 = q := by omega
      obtain ⟨d0, d1⟩ := HK.out 0 (by omega)
      obtain ⟨e0, e1⟩ := HK.out q hq4
      obtain ⟨y, hy⟩ : ∃ y, colF f k = y := ⟨_, rfl⟩
      obtain ⟨u, hu⟩ : ∃ u, cntF f k 0 = u := ⟨_, rfl⟩
      obtain ⟨v, hv⟩ : ∃ v, cntF f k q = v := ⟨_, rfl⟩
      have hvb := cntF_bd f k q
      rw [hv] at hvb e0
      rw [hu] at d0
      rw [hy] at hgk
      obtain ⟨hv0, hvk⟩ := hvb
      have hgne : ¬ w1.heap.size = g := by omega
      have hgw : g < wr.heap.size := Nat.lt_trans hgs hsz
      have HS : ∀ z, (if u < y then y else u) = z → Hid (Intw ((wr.setCell ⟨w1.heap.size, q, none⟩ (.int .i64 (v + 1))).setCell ⟨w1.heap.size, 0, none⟩ (.int .i64 z)) w1.heap.size 4 (cntF f (k + 1))) := fun z hz => Lib.hid (((HK.out.store hq4 (v + 1)).store (j := 0) (by omega) z).congr fun j _ => by
        show (if j = 0 then z else if j = q then v + 1 else cntF f k j) = (if j = 0 then (if cntF f k 0 < colF f k then colF f k else cntF f k 0) else if j = (f k).kind.toNat then cntF f k j + 1 else cntF f k j)
        rw [hx, hu, hy, hz]
        by_cases ej : j = q
        · subst ej; rw [if_neg hqn, if_neg hqn, if_pos rfl, if_pos (by simp), hv]
        · by_cases ej0 : j = 0
          · rw [if_pos ej0, if_pos ej0]
          · rw [if_neg ej0, if_neg ej0, if_neg ej, if_neg (by simpa using ej)])
      have HSS := Lib.hid HS
      have HNM := Lib.hid c4
      clear hcell hx hy hu hv HS hgi c4
      by_cases huy : u < y
      · have HN := Lib.hid (HSS.out y (if_pos huy))
        have hs9 : (wr.setCell ⟨w1.heap.size, q, none⟩ (.int .i64 (v + 1))).heap.size = wr.heap.size := by simp
        clear hs9
        go_wp2_with fail
        go_region
        all_goals
          go_wp2_with fail
          go_roundw
          case rel => exact ⟨k + 1, by go_num, by omega, Lib.hid (HN.out.keep (by go_grown)), by go_grown, by first | (simpa using hsz) | (simp; omega)⟩
          case measure => simp [intOf]; omega
      · have HN := Lib.hid (HSS.out u (if_neg huy))
        have huy' : y ≤ u := by omega
        clear huy
        go_wp2_with fail
        go_region
        all_goals
          go_wp2_with fail
          go_roundw
          case rel => exact ⟨k + 1, by go_num, by omega, Lib.hid (HN.out.keep (by go_grown)), by go_grown, by first | (simpa using hsz) | (simp; omega)⟩
          case measure => simp [intOf]; omega
    · obtain rfl : k = len := by omega
      obtain ⟨x, hx⟩ : ∃ x, cntF f k = x := ⟨_, rfl⟩
      have HK2 : Hid (Intw wr w1.heap.size 4 x) := Lib.hid (by rw [← hx]; exact HK.out)
      have HX := Lib.hid hx
      obtain ⟨p0, -⟩ := HK2.out 0 (by omega)
      obtain ⟨p1, -⟩ := HK2.out 1 (by omega)
      obtain ⟨p2, -⟩ := HK2.out 2 (by omega)
      obtain ⟨p3, -⟩ := HK2.out 3 (by omega)
      obtain ⟨r0, s0⟩ := (HR1.out.keep hbel) 0 (by omega)
      obtain ⟨r1, s1⟩ := (HR1.out.keep hbel) 1 (by omega)
      obtain ⟨r2, s2⟩ := (HR1.out.keep hbel) 2 (by omega)
      obtain ⟨r3, s3⟩ := (HR1.out.keep hbel) 3 (by omega)
      have hDD : Below w.heap.size w wr := HD1.out.trans (hbel.mono (by omega))
      clear hx hbel
      go_wp2_with fail
      refine bodyPost_ret (v := .tuple #[.agg #[.int .i64 (x 0), .int .i64 (x 1), .int .i64 (x 2), .int .i64 (x 3)], .int .i64 0]) (by simp [results, Try.results20, go_sem, *]) rfl ⟨by rw [HX.out], by go_grown⟩
end Go.Proofs.Ytjodjfllgofkaaa
