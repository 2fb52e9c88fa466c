import Derived.Test.YtpjfpkhcadombaaRg
import Derived.RegionIn
namespace Go.Proofs.Ytpjfpkhcadombaa
open Go.RowKit Go.Shelf Prm
attribute [local go_sem] Oper.semAt_some

set_option maxRecDepth 100000 in
set_option maxHeartbeats 1000000 in
theorem exchanges_in (n : Nat) (ao : Option Addr) (len cap : Nat) (w : World) :
    CallsIn Fence.wide n Try.prog 21 #[.slice ao len cap] w fun e w' => e = .returned (.func (.func 28) #[] #[.pointer (some ⟨w.heap.size, 0, none⟩)]) ∧ w.alloc (.cells #[.slice ao len cap] 22) = w' := by
  refine callsIn_of_wp Try.func21 rfl trivial ?_ rfl
  simp only [Try.ntmps21, List.size_toArray, List.length_cons, List.length_nil, Nat.reduceAdd, Nat.reduceSub, Array.replicate_succ, Array.replicate_zero, List.push_toArray, List.append_toArray, List.nil_append, List.cons_append]
  gi_wp2
  go_ret
  exact ⟨rfl, rfl⟩

/-- What block g holds, as numbers. -/
def curI (w : World) (g : Nat) (i : Nat) : Int := match w.cell? ⟨g, i, none⟩ with
  | some (.int _ v) => v
  | _ => 0
theorem curI_eq {w : World} {g n : Nat} {f : Nat → Int} (h : Intw w g n f) : inv n (curI w g) = inv n f := inv_congr fun i hi => by unfold curI; rw [(h i hi).1]
theorem Intw.swap {w : World} {g n k : Nat} {f : Nat → Int} (h : Intw w g n f) (hk : k + 1 < n) {x y : Int} (hx : f k = x) (hy : f (k + 1) = y) : Intw ((w.setCell ⟨g, k, none⟩ (.int .i64 y)).setCell ⟨g, k + 1, none⟩ (.int .i64 x)) g n (swp f k) :=
  ((h.store (j := k) (by omega) y).store (j := k + 1) hk x).congr fun i _ => by
    unfold updI swp
    by_cases e1 : i = k
    · subst e1; rw [if_neg (by omega), if_pos rfl, if_pos rfl, hy]
    · by_cases e2 : i = k + 1
      · rw [if_pos e2, if_neg e1, if_pos e2, hx]
      · rw [if_neg e2, if_neg e1, if_neg e1, if_neg e2]

set_option maxRecDepth 100000 in
set_option maxHeartbeats 4000000 in
theorem exch_iter (n Bp len cap b o : Nat) (f : Nat → Int) (w0 : World) (h1 : 1 ≤ len) (hlen : len ≤ 64) (hBp : w0.cell? ⟨Bp, 0, none⟩ = some (.slice (some ⟨b, o, none⟩) len cap)) (hc : ∀ i, i < len → w0.cell? ⟨b, o + i, none⟩ = some (.int .i64 (f i))) :
    Iter Fence.wide n Try.prog 28 #[.pointer (some ⟨Bp, 0, none⟩)] (fun pre => ∃ g, Runs len f pre g ∧ desc g (len - 1) 0 = none) (inv len f) len w0 := by
  intro l J W hW hJb hJs hY h0
  have HC : Hid (∀ i, i < len → W.cell? ⟨b, o + i, none⟩ = some (.int .i64 (f i))) := Lib.hid fun i hi => (hW.cell (p := ⟨b, o + i, none⟩) (World.block_lt_of_cell? w0 _ (hc i hi))).trans (hc i hi)
  have cB : W.cell? ⟨Bp, 0, none⟩ = some (.slice (some ⟨b, o, none⟩) len cap) := (hW.cell (p := ⟨Bp, 0, none⟩) (World.block_lt_of_cell? w0 _ hBp)).trans hBp
  have HJB := Lib.hid hJb
  have HJS := Lib.hid hJs
  have HY := Lib.hid hY
  have H0 := Lib.hid h0
  have h64 : (len : Int) ≤ 64 := by omega
  clear hJb hJs hY h0 hc hBp hW
  refine callsIn_of_wp Try.func28 rfl trivial ?_ rfl
  simp only [Try.ntmps28, List.size_toArray, List.length_cons, List.length_nil, Nat.reduceAdd, Nat.reduceSub, Array.replicate_succ, Array.replicate_zero, List.push_toArray, List.append_toArray, List.nil_append, List.cons_append]
  gi_wp2_with fail
  refine ⟨trivial, (fun h => by simp [Fence.wide] at h), (callsIn_wide.2 (clone_any len cap b o f _ h1 hlen HC.out)).mono ?_⟩
  rintro e w1 ⟨⟨ib, cap1, rfl, hiw, hB, hlt, _, _⟩, hb⟩
  have HI := Lib.hid hiw
  have HJ := Lib.hid (HJB.out ib [] _ _ (H0.out ib) hb)
  clear hb hiw cB
  gi_wp2_with fail
  refine ⟨trivial, (fun h => by simp [Fence.wide] at h), (callsIn_wide.2 (descent_any len cap1 _ f _ h1 (by omega) HI.out.ints)).mono ?_⟩
  obtain ⟨d0, hd0⟩ : ∃ d0, opI (desc f (len - 1) 0) = d0 := ⟨_, rfl⟩
  rw [hd0]
  have HD0 := Lib.hid hd0
  clear hd0
  rintro e w2 ⟨rfl, hb⟩
  have HI2 := Lib.hid (HI.out.keep hb)
  have HJ2 := Lib.hid (HJB.out ib [] _ _ HJ.out hb)
  have hlt2 : ib < w2.heap.size := Nat.lt_of_lt_of_le hlt hb.size
  clear hb HI HJ hlt
  gi_wp2_with fail
  gi_loopw [4] (fun d wr => ∃ (pre : List Nat) (g : Nat → Int) (dv : Int), d = .int .i64 dv ∧ Hid (opI (desc g (len - 1) 0) = dv) ∧ Hid (Runs len f pre g) ∧ Hid (Intw wr ib len g) ∧ Hid (J ib pre wr) ∧ ib < wr.heap.size) (fun _ wr => inv len (curI wr ib))
  case atStart => exact ⟨[], f, d0, rfl, HD0, Lib.hid .nil, HI2, HJ2, hlt2⟩
  case round =>
    obtain ⟨pre, g, dv, rfl, HDV, HR, HW, HJ3, hlt3⟩ := hrel
    clear HI2 HJ2
    obtain ⟨r, hr⟩ : ∃ r, desc g (len - 1) 0 = r := ⟨_, rfl⟩
    have HD := Lib.hid hr
    clear hr
    cases r with
    | none =>
      obtain rfl : -1 = dv := by have := HDV.out; rw [HD.out] at this; exact this
      gi_wp2
      go_end0
      exact ⟨⟨_, rfl⟩, ib, pre, hB, ⟨g, HR.out, HD.out⟩, HJ3.out⟩
    | some k =>
      obtain rfl : (k : Int) = dv := by have := HDV.out; rw [HD.out] at this; exact this
      obtain ⟨_, hk, hgk⟩ := desc_some HD.out
      have hk1 : k + 1 < len := by omega
      have hk1' : (k : Int) + 1 < len := by omega
      obtain ⟨x, hx⟩ : ∃ x, g k = x := ⟨_, rfl⟩
      obtain ⟨y, hy⟩ : ∃ y, g (k + 1) = y := ⟨_, rfl⟩
      obtain ⟨c0, d0⟩ := HW.out k (by omega)
      obtain ⟨c1, d1⟩ := HW.out (k + 1) hk1
      rw [hx] at c0
      rw [hy] at c1
      have HS : Hid (Intw ((wr.setCell ⟨ib, k, none⟩ (.int .i64 y)).setCell ⟨ib, k + 1, none⟩ (.int .i64 x)) ib len (swp g k)) := Lib.hid (HW.out.swap hk1 hx hy)
      have HV : Hid (inv len (swp g k) + 1 = inv len g) := Lib.hid (inv_swp hk1 hgk)
      have HJ4 : Hid (J ib pre ((wr.setCell ⟨ib, k, none⟩ (.int .i64 y)).setCell ⟨ib, k + 1, none⟩ (.int .i64 x))) := Lib.hid (HJS.out ib pre _ _ _ hB (HJS.out ib pre _ _ _ hB HJ3.out))
      have HMR : Hid (inv len (curI wr ib) = inv len g) := Lib.hid (curI_eq HW.out)
      clear hx hy hgk hk
      gi_wp2
      gi_region
      gi_wp2
      obtain ⟨wd, hwd⟩ : ∃ wd, ((wr.setCell ⟨ib, k, none⟩ (.int .i64 y)).setCell ⟨ib, k + 1, none⟩ (.int .i64 x)).drew = wd := ⟨_, rfl⟩
      rw [hwd]
      have HW5 : Hid (Intw wd ib len (swp g k)) := Lib.hid (by rw [← hwd]; exact HS.out)
      have hJ5 : J ib pre wd := by rw [← hwd]; exact HJB.out ib pre _ _ HJ4.out (Below.refl _ _).drew
      have hlt5 : ib < wd.heap.size := World.block_lt_of_cell? wd _ (HW5.out k (by omega)).1
      obtain ⟨fn, tmps, assign, body, hy, hRn⟩ := HY.out ib pre k wd hB hlt5 hJ5 (by have := HR.out.inv; have := HV.out; omega) (by omega)
      rw [hy, Oper.uponIn_round]
      clear hwd hy HS HJ4 HJ3 HW c0 c1 d0 d1 hJ5
      refine ⟨fun h => by simp [Fence.wide] at h, hRn.mono ?_⟩
      rintro e w5 ⟨rfl, hJ6, hs6, hb6⟩
      have HJ6 := Lib.hid hJ6
      have HW6 : Hid (Intw w5 ib len (swp g k)) := Lib.hid (HW5.out.block hb6)
      have hlt6 : ib < w5.heap.size := Nat.lt_of_lt_of_le hlt5 hs6
      clear hRn hJ6 hb6 HW5
      gi_wp2_with fail
      obtain ⟨d1, hd1⟩ : ∃ d1, opI (desc (swp g k) (len - 1) 0) = d1 := ⟨_, rfl⟩
      have HD1 := Lib.hid hd1
      refine ⟨trivial, (fun h => by simp [Fence.wide] at h), (callsIn_wide.2 (descent_any len cap1 _ (swp g k) _ h1 (by omega) HW6.out.ints)).mono ?_⟩
      rw [hd1]
      clear hd1
      rintro e w7 ⟨rfl, hb7⟩
      have HJ7 := Lib.hid (HJB.out ib _ _ _ HJ6.out hb7)
      have HW7 := Lib.hid (HW6.out.keep hb7)
      have hlt7 : ib < w7.heap.size := Nat.lt_of_lt_of_le hlt6 hb7.size
      have HM : Hid (inv len (curI w7 ib) + 1 = inv len g) := Lib.hid (by rw [curI_eq HW7.out]; exact HV.out)
      have HM2 : Hid (inv len (curI wr ib) = inv len g) := Lib.hid HMR.out
      clear hb7 HJ6 HW6
      gi_wp2_with fail
      go_roundw
      case rel => exact ⟨pre ++ [k], swp g k, d1, rfl, HD1, Lib.hid (HR.out.step HD.out), HW7, HJ7, hlt7⟩
      case measure => have := HM.out; have := HM2.out; omega
end Go.Proofs.Ytpjfpkhcadombaa
