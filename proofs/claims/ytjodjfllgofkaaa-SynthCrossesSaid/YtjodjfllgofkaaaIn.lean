import Derived.Test.YtjodjfllgofkaaaIb
import Derived.RegionTactic
import Derived.Test.YtjodjfllgofkaaaDe
import Derived.Test.YtjodjfllgofkaaaEx
namespace Prm
/-- Is the element k of f a number from 0 to n - 1 that is not among those ahead of it? -/
def okAt (n : Nat) (f : Nat → Int) (k : Nat) : Bool := decide (0 ≤ f k ∧ f k < n ∧ ∀ j, j < k → f j ≠ f k)
def okUp (n : Nat) (f : Nat → Int) : Nat → Bool
  | 0 => true
  | k + 1 => okUp n f k && okAt n f k
theorem okUp_stop {n : Nat} {f : Nat → Int} {k : Nat} (h : okAt n f k = false) : ∀ m, k < m → okUp n f m = false := by
  intro m
  induction m with
  | zero => intro h; omega
  | succ m ih =>
    intro hk
    simp only [okUp]
    by_cases e : k = m
    · subst e; rw [h]; simp
    · rw [ih (by omega)]; rfl
theorem okUp_iff {n : Nat} {f : Nat → Int} {m : Nat} : okUp n f m = true ↔ ∀ k, k < m → (0 ≤ f k ∧ f k < n ∧ ∀ j, j < k → f j ≠ f k) := by
  induction m with
  | zero => simp [okUp]
  | succ m ih =>
    simp only [okUp, Bool.and_eq_true, ih, okAt, decide_eq_true_eq]
    constructor
    · rintro ⟨h1, h2⟩ k hk
      by_cases e : k = m
      · subst e; exact h2
      · exact h1 k (by omega)
    · intro h
      exact ⟨fun k hk => h k (by omega), h m (by omega)⟩
/-- P4.2, ValidPerm. -/
def permB (n : Nat) (f : Nat → Int) : Bool := decide (1 ≤ n ∧ n ≤ 64) && okUp n f n
theorem permB_size {n : Nat} {f : Nat → Int} (h : ¬ (1 ≤ n ∧ n ≤ 64)) : permB n f = false := by unfold permB; rw [decide_eq_false h]; rfl
theorem permB_in {n : Nat} {f : Nat → Int} (h1 : 1 ≤ n) (h2 : n ≤ 64) : permB n f = okUp n f n := by unfold permB; rw [decide_eq_true ⟨h1, h2⟩]; rfl
theorem permB_yes {n : Nat} {f : Nat → Int} (h : permB n f = true) : 1 ≤ n ∧ n ≤ 64 ∧ ∀ k, k < n → (0 ≤ f k ∧ f k < n ∧ ∀ j, j < k → f j ≠ f k) := by
  unfold permB at h
  rw [Bool.and_eq_true, decide_eq_true_eq] at h
  exact ⟨h.1.1, h.1.2, okUp_iff.1 h.2⟩
/-- Is x among the first k? -/
def usedB (f : Nat → Int) (k x : Nat) : Bool := decide (∃ j, j < k ∧ f j = x)
theorem usedB_zero (f : Nat → Int) (x : Nat) : usedB f 0 x = false := decide_eq_false (by rintro ⟨j, h, _⟩; omega)
theorem usedB_at {f : Nat → Int} {k y : Nat} (h : f k = y) : usedB f (k + 1) y = true := decide_eq_true ⟨k, by omega, h⟩
theorem usedB_ne {f : Nat → Int} {k y x : Nat} (h : f k = y) (hx : ¬ x = y) : usedB f (k + 1) x = usedB f k x := by
  unfold usedB
  rw [Bool.eq_iff_iff, decide_eq_true_eq, decide_eq_true_eq]
  constructor
  · rintro ⟨j, hj, e⟩
    by_cases ej : j = k
    · subst ej; exact absurd (by rw [h] at e; omega) hx
    · exact ⟨j, by omega, e⟩
  · rintro ⟨j, hj, e⟩; exact ⟨j, by omega, e⟩
theorem okAt_yes {n : Nat} {f : Nat → Int} {k y : Nat} (h : f k = y) (hy : y < n) (hu : usedB f k y = false) : okAt n f k = true := by
  unfold usedB at hu
  rw [decide_eq_false_iff_not] at hu
  exact decide_eq_true ⟨by omega, by omega, fun j hj e => hu ⟨j, hj, by rw [e, h]⟩⟩
theorem okAt_used {n : Nat} {f : Nat → Int} {k y : Nat} (h : f k = y) (hu : usedB f k y = true) : okAt n f k = false := by
  unfold usedB at hu
  rw [decide_eq_true_eq] at hu
  obtain ⟨j, hj, e⟩ := hu
  exact decide_eq_false fun ⟨_, _, h3⟩ => h3 j hj (by rw [e, h])
theorem okAt_out {n : Nat} {f : Nat → Int} {k : Nat} (h : ¬ (0 ≤ f k ∧ f k < n)) : okAt n f k = false := decide_eq_false fun ⟨h1, h2, _⟩ => h ⟨h1, h2⟩
end Prm
namespace Go.Proofs.Ytjodjfllgofkaaa
open Go.RowKit Prm

/-- Block B is 64 bools: which numbers are used. -/
def Used (w : World) (B : Nat) (g : Nat → Bool) : Prop := ∀ j, j < 64 → w.cell? ⟨B, j, none⟩ = some (.bool (g j)) ∧ w.frozen? ⟨B, j, none⟩ = false
theorem Used.fresh (w : World) (t : TypeId) : Used (w.alloc (.cells (Array.replicate 64 (.bool false)) t)) w.heap.size (fun _ => false) := by
  intro j hj
  have e : (w.alloc (.cells (Array.replicate 64 (.bool false)) t)).heap[w.heap.size]? = some (.cells (Array.replicate 64 (.bool false)) t (0, 0)) := by
    show (w.heap.push _)[w.heap.size]? = _
    simp
  constructor
  · unfold World.cell?
    simp only [e]
    simp [hj]
  · unfold World.frozen?
    simp only [e]
    simp
theorem Used.congr {w : World} {B : Nat} {g g' : Nat → Bool} (h : Used w B g) (e : ∀ j, j < 64 → g j = g' j) : Used w B g' := fun j hj => by rw [← e j hj]; exact h j hj
theorem Used.store {w : World} {B : Nat} {g : Nat → Bool} (h : Used w B g) {y : Nat} (hy : y < 64) : Used (w.setCell ⟨B, y, none⟩ (.bool true)) B (fun j => if j = y then true else g j) := by
  intro j hj
  obtain ⟨a0, f0⟩ := h y hy
  by_cases e : j = y
  · subst e
    dsimp only
    rw [if_pos rfl]
    exact ⟨by go_cell, by go_cell⟩
  · dsimp only
    rw [if_neg e]
    obtain ⟨b0, g0⟩ := h j hj
    have hne : ¬ y = j := fun e' => e e'.symm
    exact ⟨by go_cell, by go_cell⟩

set_option maxRecDepth 100000 in
set_option maxHeartbeats 2000000 in
theorem validPerm_any (n cap : Nat) (ao : Option Addr) (f : Nat → Int) (w : World) (hn : n ≤ 9223372036854775807) (hc : Ints w ao n f) :
    Calls Try.prog 77 #[.slice ao n cap] w fun e w' => e = .returned (.bool (permB n f)) ∧ Below w.heap.size w w' := by
  have HC := Lib.hid hc
  clear hc
  by_cases h0 : n = 0
  · have hb0 : ((n : Int) == 0) = true := by simp [h0]
    have HE : Hid (permB n f = false) := Lib.hid (permB_size (by omega))
    clear h0
    go_enter Try.func77, Try.ntmps77
    go_wp2_with fail
    go_returns
    exact ⟨by rw [HE.out] <;> rfl, by go_grown⟩
  by_cases h64 : 64 < n
  · have hb0 : ((n : Int) == 0) = false := by simp [h0]
    have h64' : 64 < (n : Int) := by omega
    have HE : Hid (permB n f = false) := Lib.hid (permB_size (by omega))
    clear h0 h64
    go_enter Try.func77, Try.ntmps77
    go_wp2_with fail
    go_returns
    exact ⟨by rw [HE.out] <;> rfl, by go_grown⟩
  have hb0 : ((n : Int) == 0) = false := by simp [h0]
  have h64' : (n : Int) ≤ 64 := by omega
  have HN : Hid (permB n f = okUp n f n) := Lib.hid (permB_in (by omega) (by omega))
  have H64 : Hid (n ≤ 64) := Lib.hid (by omega)
  clear h0 h64
  go_enter Try.func77, Try.ntmps77
  go_wp2_with fail
  go_loopw [6, 17] (fun _ i wr => ∃ k : Nat, i = .int .i64 k ∧ k ≤ n ∧ Hid (okUp n f k = true) ∧ Hid (Used wr w.heap.size (usedB f k)) ∧ Below w.heap.size w wr ∧ w.heap.size < wr.heap.size) (fun _ i _ => n - (intOf i).toNat)
  case atStart => exact ⟨0, rfl, Nat.zero_le _, Lib.hid rfl, Lib.hid ((Used.fresh w _).congr fun j _ => (usedB_zero f j).symm), by go_grown, by simp⟩
  case round =>
    obtain ⟨k, rfl, hk, HK, HU, hbel, hsz⟩ := hrel
    by_cases hlt : k < n
    · have hlt' : (k : Int) < (n : Int) := by omega
      obtain ⟨b, o, rfl, hcell⟩ := (Ints.keep HC.out (hbel)) (by omega)
      obtain ⟨x, hx⟩ : ∃ x, f k = x := ⟨_, rfl⟩
      have c0 := hcell k hlt
      rw [hx] at c0
      have HX := Lib.hid hx
      clear hcell hx
      by_cases hneg : x < 0
      · have HE : Hid (okUp n f n = false) := Lib.hid (okUp_stop (k := k) (okAt_out (by rw [HX.out]; omega)) n hlt)
        go_wp2_with fail
        go_returns
        exact ⟨by rw [HN.out, HE.out] <;> rfl, by go_grown⟩
      · by_cases hbig : (n : Int) ≤ x
        · have HE : Hid (okUp n f n = false) := Lib.hid (okUp_stop (k := k) (okAt_out (by rw [HX.out]; omega)) n hlt)
          go_wp2_with fail
          go_returns
          exact ⟨by rw [HN.out, HE.out] <;> rfl, by go_grown⟩
        · obtain ⟨y, rfl⟩ : ∃ y : Nat, x = y := ⟨x.toNat, by omega⟩
          have hyn : (y : Int) < n := by omega
          have hy64 : y < 64 := by have := H64.out; omega
          have hy64' : (y : Int) < 64 := by omega
          have hu := HU.out y hy64
          obtain ⟨u, hu'⟩ : ∃ u, usedB f k y = u := ⟨_, rfl⟩
          rw [hu'] at hu
          have HU' := Lib.hid hu'
          obtain ⟨u0, u1⟩ := hu
          clear hu' hneg hbig
          cases u with
          | true =>
            have HE : Hid (okUp n f n = false) := Lib.hid (okUp_stop (k := k) (okAt_used HX.out HU'.out) n hlt)
            go_wp2_with fail
            go_returns
            exact ⟨by rw [HN.out, HE.out] <;> rfl, by go_grown⟩
          | false =>
            have HO : Hid (okUp n f (k + 1) = true) := Lib.hid (by simp only [okUp]; rw [HK.out, okAt_yes HX.out (by omega) HU'.out]; rfl)
            have HS : Hid (Used (wr.setCell ⟨w.heap.size, y, none⟩ (.bool true)) w.heap.size (usedB f (k + 1))) := Lib.hid ((HU.out.store hy64).congr fun j _ => by
              by_cases e : j = y
              · subst e; rw [if_pos rfl, usedB_at HX.out]
              · rw [if_neg e, usedB_ne HX.out e])
            go_wp2_with fail
            go_roundw
            case rel => exact ⟨k + 1, by go_num, by omega, HO, HS, by go_grown, by simpa using hsz⟩
            case measure => simp [intOf]; omega
    · obtain rfl : k = n := by omega
      go_wp2_with fail
      go_returns
      exact ⟨by rw [HN.out, HK.out] <;> rfl, hbel⟩
end Go.Proofs.Ytjodjfllgofkaaa

namespace Go.Proofs.Ytjodjfllgofkaaa
open Go.RowKit Prm
set_option maxRecDepth 100000 in
set_option maxHeartbeats 2000000 in
theorem rValidPerm_any (n cap : Nat) (ao : Option Addr) (f : Nat → Int) (w : World) (hn : n ≤ 9223372036854775807) (hc : Ints w ao n f) :
    Calls Try.prog 75 #[.slice ao n cap] w fun e w' => e = .returned (.bool (permB n f)) ∧ Below w.heap.size w w' := by
  have HC := Lib.hid hc
  clear hc
  by_cases h0 : n = 0
  · have hb0 : (n : Int) < 1 := by omega
    have HE : Hid (permB n f = false) := Lib.hid (permB_size (by omega))
    clear h0
    go_enter Try.func75, Try.ntmps75
    go_wp2_with fail
    go_returns
    exact ⟨by rw [HE.out] <;> rfl, by go_grown⟩
  by_cases h64 : 64 < n
  · have hb0 : 1 ≤ (n : Int) := by omega
    have h64' : 64 < (n : Int) := by omega
    have HE : Hid (permB n f = false) := Lib.hid (permB_size (by omega))
    clear h0 h64
    go_enter Try.func75, Try.ntmps75
    go_wp2_with fail
    go_returns
    exact ⟨by rw [HE.out] <;> rfl, by go_grown⟩
  have hb0 : 1 ≤ (n : Int) := by omega
  have h64' : (n : Int) ≤ 64 := by omega
  have HN : Hid (permB n f = okUp n f n) := Lib.hid (permB_in (by omega) (by omega))
  clear h0 h64
  go_enter Try.func75, Try.ntmps75
  go_wp2_with fail
  go_loopw [3, 4] (fun i _ wr => ∃ k : Nat, i = .int .i64 k ∧ k ≤ n ∧ Hid (okUp n f k = true) ∧ Below w.heap.size w wr) (fun i _ _ => n - (intOf i).toNat)
  case atStart => exact ⟨0, rfl, Nat.zero_le _, Lib.hid rfl, by go_grown⟩
  case round =>
    obtain ⟨k, rfl, hk, HK, hbel⟩ := hrel
    by_cases hlt : k < n
    · have hlt' : (k : Int) < (n : Int) := by omega
      obtain ⟨b, o, rfl, hcell⟩ := (Ints.keep HC.out (hbel)) (by omega)
      obtain ⟨x, hx⟩ : ∃ x, f k = x := ⟨_, rfl⟩
      have c0 := hcell k hlt
      rw [hx] at c0
      have HX := Lib.hid hx
      have HCE := Lib.hid hcell
      clear hcell hx
      by_cases hneg : x < 0
      · have HE : Hid (okUp n f n = false) := Lib.hid (okUp_stop (k := k) (okAt_out (by rw [HX.out]; omega)) n hlt)
        go_wp2_with fail
        go_returns
        exact ⟨by rw [HN.out, HE.out] <;> rfl, by go_grown⟩
      · by_cases hbig : (n : Int) ≤ x
        · have HE : Hid (okUp n f n = false) := Lib.hid (okUp_stop (k := k) (okAt_out (by rw [HX.out]; omega)) n hlt)
          go_wp2_with fail
          go_returns
          exact ⟨by rw [HN.out, HE.out] <;> rfl, by go_grown⟩
        · have hx0 : 0 ≤ x := by omega
          have hxn : x < (n : Int) := by omega
          clear hneg hbig
          obtain ⟨wo, rfl⟩ : ∃ wo : World, wo = wr := ⟨_, rfl⟩
          go_wp2_with fail
          go_loopw [4] (fun j wr => ∃ i : Nat, j = .int .i64 i ∧ i ≤ k ∧ Hid (∀ j, j < i → f j ≠ x) ∧ Below w.heap.size w wr) (fun j _ => k - (intOf j).toNat)
          case atStart => exact ⟨0, rfl, Nat.zero_le _, Lib.hid (fun j hj => by omega), hbel⟩
          case round =>
            obtain ⟨i, rfl, hi, HI, hbel2⟩ := hrel
            obtain ⟨b2, o2, e2, hcell2⟩ := (Ints.keep HC.out (hbel2)) (by omega)
            obtain ⟨rfl, rfl⟩ : b = b2 ∧ o = o2 := by injection e2 with e2; injection e2 with e3 e4; exact ⟨e3, e4⟩
            have d0 := hcell2 k hlt
            rw [HX.out] at d0
            clear c0
            by_cases hik : i < k
            · have hik' : (i : Int) < (k : Int) := by omega
              obtain ⟨y, hy⟩ : ∃ y, f i = y := ⟨_, rfl⟩
              have d1 := hcell2 i (by omega)
              rw [hy] at d1
              have HY := Lib.hid hy
              clear hcell2 hy e2
              by_cases hxy : y = x
              · have hq : (y == x) = true := beq_iff_eq.2 hxy
                have HE : Hid (okUp n f n = false) := Lib.hid (okUp_stop (k := k) (decide_eq_false fun ⟨_, _, h3⟩ => h3 i hik (by rw [HY.out, HX.out, hxy])) n hlt)
                clear hxy
                go_wp2_with fail
                go_region
                all_goals
                  go_wp2_with fail
                  go_returns
                  exact ⟨by rw [HN.out, HE.out] <;> rfl, by go_grown⟩
              · have hq : (y == x) = false := beq_eq_false_iff_ne.2 hxy
                have HI2 : Hid (∀ j, j < i + 1 → f j ≠ x) := Lib.hid (fun j hj => by
                  by_cases e : j = i
                  · subst e; rw [HY.out]; exact hxy
                  · exact HI.out j (by omega))
                clear hxy
                go_wp2_with fail
                go_region
                all_goals
                  go_wp2_with fail
                  go_roundw
                  case rel => exact ⟨i + 1, by go_num, by omega, HI2, by go_grown⟩
                  case measure => simp [intOf]; omega
            · obtain rfl : i = k := by omega
              have HO : Hid (okUp n f (i + 1) = true) := Lib.hid (by
                simp only [okUp]
                rw [HK.out, show okAt n f i = true from decide_eq_true ⟨by rw [HX.out]; exact hx0, by rw [HX.out]; exact hxn, fun j hj => by rw [HX.out]; exact HI.out j hj⟩]; rfl)
              clear hcell2 e2 d0
              go_wp2_with fail
              go_roundw
              case rel => exact ⟨i + 1, by go_num, by omega, HO, hbel2⟩
              case measure => simp [intOf]; omega
    · obtain rfl : k = n := by omega
      go_wp2_with fail
      go_returns
      exact ⟨by rw [HN.out, HK.out] <;> rfl, hbel⟩
end Go.Proofs.Ytjodjfllgofkaaa

namespace Prm
/-- The inverse, as it is filled. -/
def invTo (f : Nat → Int) : Nat → Nat → Int
  | 0 => fun _ => 0
  | k + 1 => fun i => if i = (f k).toNat then (k : Int) else invTo f k i
end Prm
namespace Go.Proofs.Ytjodjfllgofkaaa
open Go.RowKit Prm
set_option maxRecDepth 100000 in
set_option maxHeartbeats 2000000 in
theorem inverse_any (n cap : Nat) (ao : Option Addr) (f : Nat → Int) (w : World) (hc : Ints w ao n f) (hp : permB n f = true) :
    Calls Try.prog 79 #[.slice ao n cap] w fun e w' => IntsRet w.heap.size w' e n (invTo f n) ∧ Below w.heap.size w w' := by
  obtain ⟨h1, hn, hrg⟩ := permB_yes hp
  obtain ⟨i0, hi, hz0, hz1, hz2⟩ := info_parts infoInt
  have HI := Lib.hid (And.intro hi (And.intro hz0 (And.intro hz1 hz2)))
  have HC := Lib.hid hc
  have HRG := Lib.hid hrg
  have hn' : (n : Int) ≤ 64 := by omega
  clear hi hz0 hz1 hz2 hc hrg hp
  go_enter Try.func79, Try.ntmps79
  go_wp2_with (refine wpList_make_full _ rfl (.tmp 7) (.tmp 7) 36 rfl w.heap.size 3 i0 _ 1 Try.underlying36 HI.out.1 HI.out.2.1 HI.out.2.2.1 .i64 .i64 _ _ n rfl rfl (by simp) (by simp) ?c1 ?c2 ?c3 ?_)
  case c1 => rw [HI.out.2.2.2]; omega
  case c2 => unfold maxLen; omega
  case c3 => exact Nat.le_refl _
  intro w1 hown hgrow
  have HW : Hid (Intw w1 w.heap.size n (fun _ => 0)) := Lib.hid (Intw.of_own hown fun i hi => made_get n i hi)
  have hlt1 : w.heap.size < w1.heap.size := (hown.lt _ rfl).2
  have D1 : Below w.heap.size w w1 := Below.grown (by go_grown) hgrow (Nat.le_refl _) (fun k hk => by cases hk)
  clear hown hgrow
  go_wp2_with fail
  go_loopw [4, 5, 11] (fun _ _ i wr => ∃ k : Nat, i = .int .i64 k ∧ k ≤ n ∧ Hid (Intw wr w.heap.size n (invTo f k)) ∧ Below w.heap.size w wr ∧ w.heap.size < wr.heap.size) (fun _ _ i _ => n - (intOf i).toNat)
  case atStart => exact ⟨0, rfl, Nat.zero_le _, HW, D1, hlt1⟩
  case round =>
    obtain ⟨k, rfl, hk, HK, hbel, hsz⟩ := hrel
    by_cases hlt : k < n
    · have hlt' : (k : Int) < (n : Int) := by omega
      obtain ⟨b, o, rfl, hcell⟩ := (Ints.keep HC.out hbel) (by omega)
      have c0 := hcell k hlt
      obtain ⟨hx0, hxn, _⟩ := HRG.out k hlt
      obtain ⟨y, hy⟩ : ∃ y : Nat, f k = y := ⟨(f k).toNat, by omega⟩
      rw [hy] at c0 hx0 hxn
      have hyn : y < n := by omega
      obtain ⟨d0, e0⟩ := HK.out y hyn
      have HS : Hid (Intw (wr.setCell ⟨w.heap.size, y, none⟩ (.int .i64 k)) w.heap.size n (invTo f (k + 1))) := Lib.hid ((HK.out.store hyn k).congr fun i _ => by
        simp only [invTo, updI]; rw [hy]; simp only [Int.toNat_natCast])
      clear hcell hy hx0
      go_wp2_with fail
      go_roundw
      case rel => exact ⟨k + 1, by go_num, by omega, HS, by go_grown, by simpa using hsz⟩
      case measure => simp [intOf]; omega
    · obtain rfl : k = n := by omega
      go_wp2_with fail
      go_returns
      exact ⟨⟨w.heap.size, k, rfl, HK.out, Nat.le_refl _, hsz, Nat.le_refl _, by omega⟩, hbel⟩

/-- A list of whole numbers of the call's own and no error, or none and the error. -/
def IntsOr (B : Nat) (w : World) (e : Ending) (n : Nat) (f : Nat → Int) (er : Int) : Prop :=
  (er = 0 ∧ ∃ g cap, e = .returned (.tuple #[.slice (some ⟨g, 0, none⟩) n cap, .int .i64 0]) ∧ Intw w g n f ∧ B ≤ g ∧ g < w.heap.size) ∨ (er ≠ 0 ∧ e = .returned (.tuple #[.slice none 0 0, .int .i64 er]))
def prmE (n : Nat) (f : Nat → Int) : Int := if permB n f = true then 0 else 40
end Go.Proofs.Ytjodjfllgofkaaa

namespace Go.Proofs.Ytjodjfllgofkaaa
open Go.RowKit Go.Shelf Prm
attribute [local go_sem] Oper.semAt_some

set_option maxRecDepth 100000 in
set_option maxHeartbeats 1000000 in
theorem inversions_no (n cap : Nat) (ao : Option Addr) (f : Nat → Int) (w : World) (hn : n ≤ 9223372036854775807) (hc : Ints w ao n f) (hp : permB n f = false) :
    Calls Try.prog 39 #[.slice ao n cap] w fun e w' => e = .returned (.tuple #[.int .i64 0, .int .i64 40]) ∧ Below w.heap.size w w' := by
  have HC := Lib.hid hc
  have HP := Lib.hid hp
  clear hc hp
  go_enter Try.func39, Try.ntmps39
  go_wp2_with fail
  refine (validPerm_any n cap ao f _ hn HC.out).mono ?_
  rintro e w1 ⟨rfl, hb⟩
  rw [HP.out]
  have D1 := Lib.hid hb
  clear hb
  go_wp2_with fail
  go_returns
  exact ⟨rfl, D1.out⟩

set_option maxRecDepth 100000 in
set_option maxHeartbeats 4000000 in
theorem inversions_ok (n cap b o : Nat) (f : Nat → Int) (w : World) (hc : ∀ i, i < n → w.cell? ⟨b, o + i, none⟩ = some (.int .i64 (f i))) (hp : permB n f = true) :
    Calls Try.prog 39 #[.slice (some ⟨b, o, none⟩) n cap] w fun e w' => e = .returned (.tuple #[.int .i64 (inv n f), .int .i64 0]) ∧ Below w.heap.size w w' := by
  obtain ⟨h1, h64, _⟩ := permB_yes hp
  have HC := Lib.hid hc
  have HP := Lib.hid hp
  have hbs : b < w.heap.size := World.block_lt_of_cell? w _ (hc 0 (by omega))
  clear hc hp
  refine (callsIn_wide (n := 8)).1 ?_
  refine callsIn_of_wp_marks Try.func39 rfl trivial ?_ rfl
  simp only [Try.ntmps39, List.size_toArray, List.length_cons, List.length_nil, Nat.reduceAdd, Nat.reduceSub, Array.replicate_succ, Array.replicate_zero, List.push_toArray, List.append_toArray, List.nil_append, List.cons_append]
  gi_wp2_with fail
  refine ⟨trivial, (callsIn_wide.2 (validPerm_any n cap (some ⟨b, o, none⟩) f _ (by omega) (fun _ => ⟨b, o, rfl, HC.out⟩))).mono ?_⟩
  rintro e w1 ⟨rfl, hb⟩
  rw [HP.out]
  have HC1 : Hid (∀ i, i < n → w1.cell? ⟨b, o + i, none⟩ = some (.int .i64 (f i))) := Lib.hid fun i hi => (hb.cell (p := ⟨b, o + i, none⟩) hbs).trans (HC.out i hi)
  have D1 := Lib.hid hb
  have hbs1 : b < w1.heap.size := Nat.lt_of_lt_of_le hbs hb.size
  clear hb
  gi_wp2_with fail
  refine ⟨trivial, (exchanges_in _ (some ⟨b, o, none⟩) n cap _).mono ?_⟩
  rintro e w2 ⟨rfl, rfl⟩
  gi_wp2_with fail
  have hsw : w.heap.size ≤ w1.heap.size := D1.out.size
  have HBW : Hid (Below w.heap.size w ((w1.alloc (.cells #[.int .i64 0] 3)).alloc (.cells #[.slice (some ⟨b, o, none⟩) n cap] 36))) := Lib.hid ((D1.out.alloc hsw _).alloc (by simp; omega) _)
  refine wpIn_iter (S := fun pre => ∃ g, Runs n f pre g ∧ desc g (n - 1) 0 = none) (N := inv n f) (M := n) rfl (by omega) (gf := 100) (lb := #[.pointer (some ⟨w1.heap.size + 1, 0, none⟩)]) rfl trivial (enters_of Try.func100 (by kernel_rfl) rfl)
    (exch_iter _ (w1.heap.size + 1) n cap b o f _ h1 h64 (by go_cell) (fun i hi => (((Below.refl _ w1).alloc (Nat.le_refl _) _).alloc (by simp) _).cell (p := ⟨b, o + i, none⟩) hbs1 |>.trans (HC1.out i hi))) rfl
    (fun _ pre W => (W.cell? ⟨w1.heap.size, 0, none⟩ = some (.int .i64 pre.length) ∧ W.frozen? ⟨w1.heap.size, 0, none⟩ = false) ∧ Below w.heap.size w W)
    ?hb ?hs ?hp ?h0
    (fun x => { tmps := #[.slice (some ⟨b, o, none⟩) n cap, undef, .int .i64 0, .int .i64 0, .pointer (some ⟨w1.heap.size, 0, none⟩), .slice (some ⟨b, o, none⟩) n cap, .bool true, .bool false, .slice (some ⟨b, o, none⟩) n cap, .func (.func 100) #[] #[.pointer (some ⟨w1.heap.size + 1, 0, none⟩)], .int .i64 x, undef, undef, undef], defers := [] }) ?assign ?body ?done
  case hb =>
    rintro ib pre A B ⟨⟨c, d⟩, hB⟩ hb
    have hlt := World.block_lt_of_cell? A _ c
    exact ⟨⟨(hb.cell (p := ⟨w1.heap.size, 0, none⟩) hlt).trans c, (hb.frozen (p := ⟨w1.heap.size, 0, none⟩) hlt).trans d⟩, hB.trans (hb.mono hB.size)⟩
  case hs =>
    rintro ib pre A k v hib ⟨⟨c, d⟩, hB⟩
    simp only [World.size_alloc] at hib
    have hne : ¬ ib = w1.heap.size := by omega
    exact ⟨⟨by go_cell, by go_cell⟩, hB.setCell (p := ⟨ib, k, none⟩) (by show w.heap.size ≤ ib; omega) _⟩
  case hp =>
    rintro ib pre A l x x' hl hA hx ⟨⟨c, d⟩, hB⟩
    simp only [World.size_alloc] at hl
    have hr : ∀ r, some l = some r → ∃ y : Obj, A.heap[r]? = some y ∧ y.isCells = false := fun r e => by cases e; exact ⟨x, hA, hx⟩
    exact ⟨⟨cell_kept c (grownBy_putObj' A l x') hr, (frozen_kept c (grownBy_putObj' A l x') hr).trans d⟩, hB.grown (grownBy_putObj' A l x') (Nat.le_trans hsw (by have := (Array.getElem?_eq_some_iff.1 hA).1; omega)) (fun k e => by cases e; omega)⟩
  case h0 =>
    intro ib
    exact ⟨⟨by go_cell, by go_cell⟩, HBW.out⟩
  case assign =>
    intro l x W K hK
    gi_wp2
    first
      | simpa using hK
      | (simp [Array.zip, Array.zipWith]; exact hK)
  case body =>
    rintro l ib pre x W hib hlt ⟨⟨c, d⟩, hB⟩ hN _
    simp only [World.size_alloc] at hib
    have hbd : (pre.length : Int) + 1 ≤ 4097 := by have := inv_le n f; have := Nat.mul_le_mul h64 h64; omega
    have hne : ¬ w1.heap.size = ib := by omega
    have hlen : (pre ++ [x]).length = pre.length + 1 := by simp
    have HL := Lib.hid hlen
    have HDB := Lib.hid hB
    clear hlen hB
    gi_wp2
    refine ⟨KeepsOthers.setCell _ _ _, ⟨⟨?_, ?_⟩, HDB.out.setCell (p := ⟨w1.heap.size, 0, none⟩) hsw _⟩, Below.heap_setCell W _ _ _ (fun e => hne e.symm)⟩
    · rw [HL.out]; go_cell
    · go_cell
  case done =>
    rintro D ib pre W hD ⟨g, hR, hdn⟩ ⟨⟨c, d⟩, hB⟩ hK
    have hlen : pre.length = inv n f := by have := hR.inv; rw [inv_none hdn] at this; omega
    rw [hlen] at c
    simp only [World.size_alloc] at hD
    have HK := Lib.hid hK
    have HDB := Lib.hid hB
    clear hK hB hR hdn hlen
    gi_wp2
    refine ⟨by simp, .inl ⟨_, _, rfl, run_takeDeferred HK.out, ?_⟩⟩
    exact ⟨.tuple #[.int .i64 (inv n f), .int .i64 0], by simp [results, Try.f39, go_sem], rfl, HDB.out.trans (belowK_b (w := w) (Nat.le_refl _) W D _ _ (by omega) HK.out rfl rfl)⟩
end Go.Proofs.Ytjodjfllgofkaaa
