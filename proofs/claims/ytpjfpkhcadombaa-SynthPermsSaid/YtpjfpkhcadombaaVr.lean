import Derived.Test.YtpjfpkhcadombaaVp
namespace Go.Proofs.Ytpjfpkhcadombaa
open Go.RowKit Prm
set_option maxRecDepth 100000 in
set_option maxHeartbeats 2000000 in
theorem rValidPerm_any (n cap : Nat) (ao : Option Addr) (f : Nat → Int) (w : World) (hn : n ≤ 9223372036854775807) (hc : Ints w ao n f) :
    Calls Try.prog 14 #[.slice ao n cap] w fun e w' => e = .returned (.bool (permB n f)) ∧ Below w.heap.size w w' := by
  have HC := Lib.hid hc
  clear hc
  by_cases h0 : n = 0
  · have hb0 : (n : Int) < 1 := by omega
    have HE : Hid (permB n f = false) := Lib.hid (permB_size (by omega))
    clear h0
    go_enter Try.func14, Try.ntmps14
    go_wp2_with fail
    go_returns
    exact ⟨by rw [HE.out] <;> rfl, by go_grown⟩
  by_cases h64 : 64 < n
  · have hb0 : 1 ≤ (n : Int) := by omega
    have h64' : 64 < (n : Int) := by omega
    have HE : Hid (permB n f = false) := Lib.hid (permB_size (by omega))
    clear h0 h64
    go_enter Try.func14, Try.ntmps14
    go_wp2_with fail
    go_returns
    exact ⟨by rw [HE.out] <;> rfl, by go_grown⟩
  have hb0 : 1 ≤ (n : Int) := by omega
  have h64' : (n : Int) ≤ 64 := by omega
  have HN : Hid (permB n f = okTo n f n) := Lib.hid (permB_in (by omega) (by omega))
  clear h0 h64
  go_enter Try.func14, Try.ntmps14
  go_wp2_with fail
  go_loopw [3, 4] (fun i _ wr => ∃ k : Nat, i = .int .i64 k ∧ k ≤ n ∧ Hid (okTo n f k = true) ∧ Below w.heap.size w wr) (fun i _ _ => n - (intOf i).toNat)
  case atStart => exact ⟨0, rfl, Nat.zero_le _, Lib.hid rfl, by go_grown⟩
  case round =>
    obtain ⟨k, rfl, hk, HK, hbel⟩ := hrel
    by_cases hlt : k < n
    · have hlt' : (k : Int) < (n : Int) := by omega
      obtain ⟨b, o, rfl, hcell⟩ := (Ints.keep HC.out (hbel)) (by omega)
      obtain ⟨x, hx⟩ : ∃ x, f k = x := ⟨_, rfl⟩
      have c0 := hcell k hlt
      rw [hx] at c0
      have HX := Lib.hid hx
      have HCE := Lib.hid hcell
      clear hcell hx
      by_cases hneg : x < 0
      · have HE : Hid (okTo n f n = false) := Lib.hid (okTo_stop (k := k) (okAt_out (by rw [HX.out]; omega)) n hlt)
        go_wp2_with fail
        go_returns
        exact ⟨by rw [HN.out, HE.out] <;> rfl, by go_grown⟩
      · by_cases hbig : (n : Int) ≤ x
        · have HE : Hid (okTo n f n = false) := Lib.hid (okTo_stop (k := k) (okAt_out (by rw [HX.out]; omega)) n hlt)
          go_wp2_with fail
          go_returns
          exact ⟨by rw [HN.out, HE.out] <;> rfl, by go_grown⟩
        · have hx0 : 0 ≤ x := by omega
          have hxn : x < (n : Int) := by omega
          clear hneg hbig
          obtain ⟨wo, rfl⟩ : ∃ wo : World, wo = wr := ⟨_, rfl⟩
          go_wp2_with fail
          go_loopw [4] (fun j wr => ∃ i : Nat, j = .int .i64 i ∧ i ≤ k ∧ Hid (∀ j, j < i → f j ≠ x) ∧ Below w.heap.size w wr) (fun j _ => k - (intOf j).toNat)
          case atStart => exact ⟨0, rfl, Nat.zero_le _, Lib.hid (fun j hj => by omega), hbel⟩
          case round =>
            obtain ⟨i, rfl, hi, HI, hbel2⟩ := hrel
            obtain ⟨b2, o2, e2, hcell2⟩ := (Ints.keep HC.out (hbel2)) (by omega)
            obtain ⟨rfl, rfl⟩ : b = b2 ∧ o = o2 := by injection e2 with e2; injection e2 with e3 e4; exact ⟨e3, e4⟩
            have d0 := hcell2 k hlt
            rw [HX.out] at d0
            clear c0
            by_cases hik : i < k
            · have hik' : (i : Int) < (k : Int) := by omega
              obtain ⟨y, hy⟩ : ∃ y, f i = y := ⟨_, rfl⟩
              have d1 := hcell2 i (by omega)
              rw [hy] at d1
              have HY := Lib.hid hy
              clear hcell2 hy e2
              by_cases hxy : y = x
              · have hq : (y == x) = true := beq_iff_eq.2 hxy
                have HE : Hid (okTo n f n = false) := Lib.hid (okTo_stop (k := k) (decide_eq_false fun ⟨_, _, h3⟩ => h3 i hik (by rw [HY.out, HX.out, hxy])) n hlt)
                clear hxy
                go_wp2_with fail
                go_region
                all_goals
                  go_wp2_with fail
                  go_returns
                  exact ⟨by rw [HN.out, HE.out] <;> rfl, by go_grown⟩
              · have hq : (y == x) = false := beq_eq_false_iff_ne.2 hxy
                have HI2 : Hid (∀ j, j < i + 1 → f j ≠ x) := Lib.hid (fun j hj => by
                  by_cases e : j = i
                  · subst e; rw [HY.out]; exact hxy
                  · exact HI.out j (by omega))
                clear hxy
                go_wp2_with fail
                go_region
                all_goals
                  go_wp2_with fail
                  go_roundw
                  case rel => exact ⟨i + 1, by go_num, by omega, HI2, by go_grown⟩
                  case measure => simp [intOf]; omega
            · obtain rfl : i = k := by omega
              have HO : Hid (okTo n f (i + 1) = true) := Lib.hid (by
                simp only [okTo]
                rw [HK.out, show okAt n f i = true from decide_eq_true ⟨by rw [HX.out]; exact hx0, by rw [HX.out]; exact hxn, fun j hj => by rw [HX.out]; exact HI.out j hj⟩]; rfl)
              clear hcell2 e2 d0
              go_wp2_with fail
              go_roundw
              case rel => exact ⟨i + 1, by go_num, by omega, HO, hbel2⟩
              case measure => simp [intOf]; omega
    · obtain rfl : k = n := by omega
      go_wp2_with fail
      go_returns
      exact ⟨by rw [HN.out, HK.out] <;> rfl, hbel⟩
end Go.Proofs.Ytpjfpkhcadombaa
