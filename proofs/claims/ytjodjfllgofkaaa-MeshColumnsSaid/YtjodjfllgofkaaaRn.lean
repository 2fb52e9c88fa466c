import Derived.Test.YtjodjfllgofkaaaRl
namespace Go.Proofs.Ytjodjfllgofkaaa
open Go.RowKit Prm Amp
/-- Of the blocks of w1 the world wr has another C at most. -/
def Only (C : Nat) (w1 wr : World) : Prop := w1.heap.size ≤ wr.heap.size ∧ ∀ b, b < w1.heap.size → b ≠ C → wr.heap[b]? = w1.heap[b]?
theorem Only.refl (C : Nat) (w : World) : Only C w w := ⟨Nat.le_refl _, fun _ _ _ => rfl⟩
theorem Only.alloc {C : Nat} {w1 wr : World} (h : Only C w1 wr) (o : Obj) : Only C w1 (wr.alloc o) := ⟨by have := h.1; simp; omega, fun b hb hn => (Below.heap_alloc wr o b (by have := h.1; omega)).trans (h.2 b hb hn)⟩
theorem Only.setC {C : Nat} {w1 wr : World} (h : Only C w1 wr) (k : Nat) (v : Value) : Only C w1 (wr.setCell ⟨C, k, none⟩ v) := ⟨by simpa using h.1, fun b hb hn => (Below.heap_setCell wr _ v b hn).trans (h.2 b hb hn)⟩
theorem Only.drew {C : Nat} {w1 wr : World} (h : Only C w1 wr) : Only C w1 wr.drew := h
set_option maxRecDepth 100000 in
set_option maxHeartbeats 1000000 in
theorem rCount_no (N : Int) (len cap : Nat) (ao : Option Addr) (f : Nat → It) (w : World) (hlen : len ≤ 9223372036854775807) (hc : Its w ao len f) (ha : askS N len f ≠ 0) :
    Calls Try.prog 21 #[.int .i64 N, .slice ao len cap] w fun e w' => e = .returned (.tuple #[.agg #[.int .i64 0, .int .i64 0, .int .i64 0, .int .i64 0], .int .i64 (askS N len f)]) ∧ Below w.heap.size w w' := by
  have HC := Lib.hid hc
  have HNE := Lib.hid ha
  obtain ⟨er, her⟩ : ∃ er, askS N len f = er := ⟨_, rfl⟩
  rw [her] at ha
  rw [her]
  have HER := Lib.hid her
  have hb0 : (er == 0) = false := beq_eq_false_iff_ne.2 ha
  have hb1 : (er != 0) = true := bne_iff_ne.2 ha
  clear hc ha her
  go_enter Try.func21, Try.ntmps21
  go_wp2_with fail
  refine (rColumns_no N len cap ao f _ hlen (HC.out.keep (by go_grown)) HNE.out).mono ?_
  rintro e w1 ⟨rfl, hb⟩
  rw [HER.out]
  obtain ⟨ka, kb⟩ := bcl hb
  have c0 : w1.cell? ⟨w.heap.size, 0, none⟩ = some (.int .i64 0) := (ka _ _ (by first | (simp; done) | (simp; omega))).trans (by go_cell)
  have c1 : w1.cell? ⟨w.heap.size, 1, none⟩ = some (.int .i64 0) := (ka _ _ (by first | (simp; done) | (simp; omega))).trans (by go_cell)
  have c2 : w1.cell? ⟨w.heap.size, 2, none⟩ = some (.int .i64 0) := (ka _ _ (by first | (simp; done) | (simp; omega))).trans (by go_cell)
  have c3 : w1.cell? ⟨w.heap.size, 3, none⟩ = some (.int .i64 0) := (ka _ _ (by first | (simp; done) | (simp; omega))).trans (by go_cell)
  have f0 : w1.frozen? ⟨w.heap.size, 0, none⟩ = false := (kb _ _ (by first | (simp; done) | (simp; omega))).trans (by go_cell)
  have f1 : w1.frozen? ⟨w.heap.size, 1, none⟩ = false := (kb _ _ (by first | (simp; done) | (simp; omega))).trans (by go_cell)
  have f2 : w1.frozen? ⟨w.heap.size, 2, none⟩ = false := (kb _ _ (by first | (simp; done) | (simp; omega))).trans (by go_cell)
  have f3 : w1.frozen? ⟨w.heap.size, 3, none⟩ = false := (kb _ _ (by first | (simp; done) | (simp; omega))).trans (by go_cell)
  have d0 : w1.cell? ⟨w.heap.size + 1, 0, none⟩ = some (.int .i64 0) := (ka _ _ (by first | (simp; done) | (simp; omega))).trans (by go_cell)
  have d1 : w1.cell? ⟨w.heap.size + 1, 1, none⟩ = some (.int .i64 0) := (ka _ _ (by first | (simp; done) | (simp; omega))).trans (by go_cell)
  have d2 : w1.cell? ⟨w.heap.size + 1, 2, none⟩ = some (.int .i64 0) := (ka _ _ (by first | (simp; done) | (simp; omega))).trans (by go_cell)
  have d3 : w1.cell? ⟨w.heap.size + 1, 3, none⟩ = some (.int .i64 0) := (ka _ _ (by first | (simp; done) | (simp; omega))).trans (by go_cell)
  have D1 : Below w.heap.size w w1 := (((Below.refl _ w).alloc (Nat.le_refl _) _).alloc (by simp) _).trans (hb.mono (by simp; omega))
  have hs1 : w.heap.size + 1 < w1.heap.size := by have := hb.size; simp at this; omega
  clear hb ka kb
  go_wp2_with fail
  refine bodyPost_ret (v := .tuple #[.agg #[.int .i64 0, .int .i64 0, .int .i64 0, .int .i64 0], .int .i64 er]) (by simp [results, Try.results21, go_sem, *]) rfl ⟨rfl, by go_grown⟩

set_option maxRecDepth 100000 in
set_option maxHeartbeats 4000000 in
theorem rCount_ok (N : Int) (len cap : Nat) (ao : Option Addr) (f : Nat → It) (w : World) (hlc : len ≤ cap) (hc : Its w ao len f) (ha : askS N len f = 0) :
    Calls Try.prog 21 #[.int .i64 N, .slice ao len cap] w fun e w' => e = .returned (.tuple #[.agg #[.int .i64 (cntF f len 0), .int .i64 (cntF f len 1), .int .i64 (cntF f len 2), .int .i64 (cntF f len 3)], .int .i64 0]) ∧ Below w.heap.size w w' := by
  have HC := Lib.hid hc
  have HA := Lib.hid ha
  have HLC := Lib.hid hlc
  obtain ⟨_, hN6, hl5, hfit⟩ := askOk ha
  have HF := Lib.hid hfit
  have hl5' : (len : Int) ≤ 5000 := by omega
  clear hc ha hfit hlc
  go_enter Try.func21, Try.ntmps21
  go_wp2_with fail
  refine (rColumns_ok N len cap ao f _ HLC.out (HC.out.keep (by go_grown)) HA.out).mono ?_
  rintro e w1 ⟨⟨lv, rfl, hown⟩, hb⟩
  have HR1 : Hid (Intw w1 w.heap.size 4 (fun _ => 0)) := Lib.hid (((fresh4 w _).keep ((Below.refl _ _).alloc (Nat.le_refl _) _)).keep hb)
  have HK1 : Hid (Intw w1 (w.heap.size + 1) 4 (fun _ => 0)) := Lib.hid (by have := (fresh4 (w.alloc (.cells #[.int .i64 0, .int .i64 0, .int .i64 0, .int .i64 0] 39)) 39).keep hb; simpa using this)
  have HO1 := Lib.hid hown
  have D1 : Below w.heap.size w w1 := (((Below.refl _ w).alloc (Nat.le_refl _) _).alloc (by simp) _).trans (hb.mono (by simp; omega))
  have HD1 := Lib.hid D1
  have hs1 : w.heap.size + 1 < w1.heap.size := by have := hb.size; simp at this; omega
  clear hb hown D1
  go_wp2_with fail
  go_loopw [9, 10, 23] (fun _ _ i wr => ∃ k : Nat, i = .int .i64 k ∧ k ≤ len ∧ Hid (Intw wr (w.heap.size + 1) 4 (cntF f k)) ∧ Hid (Only (w.heap.size + 1) w1 wr) ∧ Below w.heap.size w wr) (fun _ _ i _ => len - (intOf i).toNat)
  case atStart => exact ⟨0, rfl, Nat.zero_le _, Lib.hid (HK1.out.congr fun _ _ => rfl), Lib.hid (Only.refl _ _), HD1.out⟩
  case round =>
    obtain ⟨k, rfl, hk, HK, HON, hbel⟩ := hrel
    have hsz : w1.heap.size ≤ wr.heap.size := HON.out.1
    by_cases hlt : k < len
    · have hlt' : (k : Int) < (len : Int) := by omega
      obtain ⟨b, o, rfl, hcell⟩ := (HC.out.keep hbel) (by omega)
      obtain ⟨g, gcap, rfl, hgB, hgs, -, -⟩ := own_fm HO1.out (by omega)
      simp only [World.size_alloc] at hgB
      have hgi : Intw w1 g len (colF f) := Intw.of_own HO1.out fun i hi => cellsI_get _ hi
      have hgk := (World.cell?_of_block (a := ⟨g, k, none⟩) (HON.out.2 g hgs (by omega))).trans (hgi k hlt).1
      obtain ⟨⟨kd, at', m, nm⟩, hx⟩ : ∃ x : It, f k = x := ⟨_, rfl⟩
      have hfk := itF_yes (fitAt HF.out hlt)
      have hz := hcell k hlt
      rw [hx] at hz hfk
      obtain ⟨c0, c1, c2, c3, c4⟩ := hz
      simp only at c0 c1 c2 c3 c4 hfk
      obtain ⟨hk1, hk3, -⟩ := hfk
      obtain ⟨q, rfl⟩ : ∃ q : Nat, kd = q := ⟨kd.toNat, by omega⟩
      have hq1 : 1 ≤ q := by omega
      have hq4 : q < 4 := by omega
      have hq4' : (q : Int) < 4 := by omega
      have hqn : ¬ q = 0 := by omega
      have hqn' : ¬ 0 = q := by omega
      obtain ⟨d0, d1⟩ := HK.out 0 (by omega)
      obtain ⟨e0, e1⟩ := HK.out q hq4
      obtain ⟨y, hy⟩ : ∃ y, colF f k = y := ⟨_, rfl⟩
      obtain ⟨u, hu⟩ : ∃ u, cntF f k 0 = u := ⟨_, rfl⟩
      obtain ⟨v, hv⟩ : ∃ v, cntF f k q = v := ⟨_, rfl⟩
      have hvb := cntF_bd f k q
      rw [hv] at hvb e0
      rw [hu] at d0
      rw [hy] at hgk
      obtain ⟨hv0, hvk⟩ := hvb
      have hgne : ¬ w.heap.size + 1 = g := by omega
      have hgw : g < wr.heap.size := Nat.lt_of_lt_of_le hgs hsz
      have hCw : w.heap.size + 1 < wr.heap.size := by omega
      have HS : ∀ z, (if u < y then y else u) = z → Hid (Intw ((wr.setCell ⟨w.heap.size + 1, q, none⟩ (.int .i64 (v + 1))).setCell ⟨w.heap.size + 1, 0, none⟩ (.int .i64 z)) (w.heap.size + 1) 4 (cntF f (k + 1))) := fun z hz => Lib.hid (((HK.out.store hq4 (v + 1)).store (j := 0) (by omega) z).congr fun j _ => by
        show (if j = 0 then z else if j = q then v + 1 else cntF f k j) = (if j = 0 then (if cntF f k 0 < colF f k then colF f k else cntF f k 0) else if j = (f k).kind.toNat then cntF f k j + 1 else cntF f k j)
        rw [hx, hu, hy, hz]
        by_cases ej : j = q
        · subst ej; rw [if_neg hqn, if_neg hqn, if_pos rfl, if_pos (by simp), hv]
        · by_cases ej0 : j = 0
          · rw [if_pos ej0, if_pos ej0]
          · rw [if_neg ej0, if_neg ej0, if_neg ej, if_neg (by simpa using ej)])
      have HSS := Lib.hid HS
      have HNM := Lib.hid c4
      clear hcell hx hy hu hv HS hgi c4
      by_cases huy : u < y
      · have HN := Lib.hid (HSS.out y (if_pos huy))
        go_wp2_with fail
        go_region
        all_goals
          go_wp2_with fail
          go_roundw
          case rel => exact ⟨k + 1, by go_num, by omega, Lib.hid (HN.out.keep (by go_grown)), Lib.hid ((((HON.out.setC _ _).setC _ _).alloc _).drew), by go_grown⟩
          case measure => simp [intOf]; omega
      · have HN := Lib.hid (HSS.out u (if_neg huy))
        have huy' : y ≤ u := by omega
        clear huy
        go_wp2_with fail
        go_region
        all_goals
          go_wp2_with fail
          go_roundw
          case rel => exact ⟨k + 1, by go_num, by omega, Lib.hid (HN.out.keep (by go_grown)), Lib.hid ((((HON.out.setC _ _).setC _ _).alloc _).drew), by go_grown⟩
          case measure => simp [intOf]; omega
    · obtain rfl : k = len := by omega
      obtain ⟨x, hx⟩ : ∃ x, cntF f k = x := ⟨_, rfl⟩
      have HK2 : Hid (Intw wr (w.heap.size + 1) 4 x) := Lib.hid (by rw [← hx]; exact HK.out)
      have HX := Lib.hid hx
      obtain ⟨p0, -⟩ := HK2.out 0 (by omega)
      obtain ⟨p1, -⟩ := HK2.out 1 (by omega)
      obtain ⟨p2, -⟩ := HK2.out 2 (by omega)
      obtain ⟨p3, -⟩ := HK2.out 3 (by omega)
      have HRR : Intw wr w.heap.size 4 (fun _ => 0) := HR1.out.block (HON.out.2 _ (by omega) (by omega))
      obtain ⟨r0, s0⟩ := HRR 0 (by omega)
      obtain ⟨r1, s1⟩ := HRR 1 (by omega)
      obtain ⟨r2, s2⟩ := HRR 2 (by omega)
      obtain ⟨r3, s3⟩ := HRR 3 (by omega)
      clear hx HRR
      go_wp2_with fail
      refine bodyPost_ret (v := .tuple #[.agg #[.int .i64 (x 0), .int .i64 (x 1), .int .i64 (x 2), .int .i64 (x 3)], .int .i64 0]) (by simp [results, Try.results21, go_sem, *]) rfl ⟨by rw [HX.out], by go_grown⟩
end Go.Proofs.Ytjodjfllgofkaaa
