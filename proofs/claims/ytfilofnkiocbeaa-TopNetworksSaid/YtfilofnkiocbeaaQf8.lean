import Derived.Test.YtfilofnkiocbeaaPn8
namespace Go.Proofs.Ytfilofnkiocbeaa
open Go.RowKit Ben
theorem may_same (x : Int) (t : Bool) (w : World) : Calls Try.prog 61 #[.int .i64 x, .bool t] w fun e w' => e = .returned (.bool (mayB x t)) ∧ w' = w :=
  (may_any x t w).mono fun _ _ h => ⟨h.1, h.2.symm⟩
set_option maxRecDepth 100000 in
set_option maxHeartbeats 4000000 in
theorem fits_any (n cap dap : Nat) (ao bo : Option Addr) (s : Nat → Bool) (f : Nat → Int) (w : World) (hn : n ≤ 80) (hc : Bools w ao n s) (hd : Ints w bo n f) :
    Calls Try.prog 33 #[.slice ao n cap, .slice bo n dap] w fun e w' => e = .returned (.bool (agB s f n)) ∧ Below w.heap.size w w' := by
  have HC := Lib.hid hc
  have HD := Lib.hid hd
  clear hc hd
  go_enter Try.func33, Try.ntmps33
  go_wp2_with fail
  go_loopw [5] (fun iv wr => ∃ (z : Int) (k : Nat), iv = .int .i64 z ∧ z = k ∧ k ≤ n ∧ Hid (agB s f k = true) ∧ Hid (Below w.heap.size w wr)) (fun iv _ => n - (intOf iv).toNat)
  case atStart => exact ⟨0, 0, rfl, rfl, by omega, Lib.hid rfl, Lib.hid (Below.refl _ _)⟩
  case round =>
    obtain ⟨z, k, rfl, hz, hk, HK, HB⟩ := hrel
    by_cases hlt : k < n
    · have hlt' : z < (n : Int) := by omega
      subst hz
      have k00 : (0 : Int) ≤ (k : Int) := by omega
      have k80 : (k : Int) ≤ 80 := by omega
      obtain ⟨b, o, rfl, hcell⟩ := (HC.out.keep HB.out) (by omega)
      obtain ⟨b', o', rfl, hcell'⟩ := (HD.out.keep HB.out) (by omega)
      have c0 := hcell k (by omega)
      have d0 := hcell' k hlt
      obtain ⟨x, hx⟩ : ∃ x, f k = x := ⟨_, rfl⟩
      obtain ⟨t, ht⟩ : ∃ t, s k = t := ⟨_, rfl⟩
      rw [hx] at d0
      rw [ht] at c0
      have HX := Lib.hid (And.intro hx ht)
      clear hcell hcell' hx ht
      cases hm : mayB x t
      · have HF : Hid (agB s f n = false) := Lib.hid (agB_stop (k := k) (by rw [HX.out.1, HX.out.2]; exact hm) n hlt)
        go_upto_region 4 with fail
        go_quiet ((go_at_call 61; exact Calls.quiet_of_same (may_same _ _ _)))
        go_wp2_with fail
        go_ret
        exact ⟨by rw [HF.out] <;> rfl, drewN_below HB.out⟩
      · have HK2 : Hid (agB s f (k + 1) = true) := Lib.hid (by simp only [agB]; rw [HK.out, HX.out.1, HX.out.2, hm]; rfl)
        go_upto_region 4 with fail
        go_quiet ((go_at_call 61; exact Calls.quiet_of_same (may_same _ _ _)))
        go_wp2_with fail
        go_roundw
        case rel => exact ⟨(k : Int) + 1, k + 1, by first | rfl | (rw [show wrap64 ((k : Int) + 1) = (k : Int) + 1 by simp only [wrap64]; omega]), by omega, by omega, HK2, Lib.hid (drewN_below HB.out)⟩
        case measure => first | (simp [intOf]; done) | (simp [intOf]; omega)
    · have hzn : ¬ z < (n : Int) := by omega
      obtain rfl : k = n := by omega
      subst hz
      go_wp2_with fail
      go_ret
      exact ⟨by rw [HK.out] <;> first | rfl | simp, HB.out⟩
end Go.Proofs.Ytfilofnkiocbeaa
