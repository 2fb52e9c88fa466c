import Derived.Test.YtldepffpafccpaaSb6
import Derived.Test.YtldepffpafccpaaEp6
namespace Heat
open Go Go.RowKit
def intAt (xs : List Value) (d i : Nat) : Int := match xs[i * 2 + d]? with
  | some (.int _ z) => z
  | _ => 0
theorem intAt_get {xs : List Value} {d i : Nat} (h : ∀ v ∈ xs, ∃ z, v = .int .i64 z) (hi : i * 2 + d < xs.length) : xs[i * 2 + d]? = some (.int .i64 (intAt xs d i)) := by
  obtain ⟨z, hz⟩ := h _ (List.getElem_mem hi)
  have he : xs[i * 2 + d]? = some (.int .i64 z) := by rw [List.getElem?_eq_getElem hi, hz]
  unfold intAt
  rw [he]
end Heat
namespace Go.Proofs.Ytldepffpafccpaa
open Go.RowKit Heat
theorem run_neArr2 (a0 a1 : Int) (w : World) :
    (binOp .neq 33 (.agg #[.int .i64 a0, .int .i64 a1]) (.agg #[.int .i64 a0, .int .i64 a1])).run Try.prog w = .ok (.bool false) w := by
  have h : (Op.equalIn 10000 33 (.agg #[.int .i64 a0, .int .i64 a1]) (.agg #[.int .i64 a0, .int .i64 a1])).run Try.prog w = .ok (a0 == a0 && a1 == a1) w :=
    run_equalIn_arr2 w 9998 a0 a1 a0 a1 Try.underlying33 Try.underlying3 (fun w => by kernel_rfl)
  simp only [binOp]
  simp [Op.equal, Op.maxDepth, h]
theorem own_rats {w : World} {B : Nat} {e : TypeId} {V : Value} {cnt : Nat} {xs : List Value} (h : w.ownsRow B e 2 V cnt xs) (hx : ∀ v ∈ xs, ∃ z, v = .int .i64 z) :
    ∃ ao cap, V = .slice ao cnt cap ∧ Rats w ao cnt (intAt xs 0) (intAt xs 1) := by
  have hlen := h.1
  rcases h.2 with ⟨rfl, h0⟩ | ⟨g, cap, cur, rfl, _⟩
  · subst h0
    exact ⟨none, 0, rfl, fun h => absurd h (by omega)⟩
  · refine ⟨some ⟨g, 0, none⟩, cap, rfl, fun _ => ⟨g, 0, rfl, fun i hi => ?_⟩⟩
    have h1 := (h.cellAt (i * 2 + 0) (by omega)).trans (intAt_get hx (by omega))
    have h2 := (h.cellAt (i * 2 + 1) (by omega)).trans (intAt_get hx (by omega))
    rw [Nat.zero_add]
    exact ⟨h1, h2⟩
theorem steps_int {E : Int} {c1 c2 : Nat → Bool} {t : Nat → Int} {n : Nat} : ∀ v ∈ (if E = 0 then selC c1 t n ++ selC c2 t n else []), ∃ z, v = Value.int .i64 z := by
  intro v hv
  split at hv
  · rw [List.mem_append] at hv
    rcases hv with hv | hv
    · exact selC_int _ _ _ v hv
    · exact selC_int _ _ _ v hv
  · cases hv
set_option maxRecDepth 100000 in
set_option maxHeartbeats 4000000 in
theorem HeatSteps_any (n cap : Nat) (ao : Option Addr) (f : Nat → Int) (m dap : Nat) (bo : Option Addr) (t : Nat → Int) (B : Int) (w : World) (hn : n ≤ 9223372036854775807) (hc : Ints w ao n f) (hm : m ≤ 9223372036854775807) (hd : Ints w bo m t) :
    Calls Try.prog 4 #[.slice ao n cap, .slice bo m dap, .int .i64 B] w fun e w' => e = .returned (.bool true) ∧ Below w.heap.size w w' := by
  have HC := Lib.hid hc
  have HD := Lib.hid hd
  clear hc hd
  by_cases h1 : 20 < (n : Int)
  · go_enter Try.func4, Try.ntmps4
    go_wp2_with fail
    refine (sane_any _).mono ?_
    rintro e w1 ⟨rfl, hb⟩
    go_wp2_with fail
    go_returns
    exact ⟨rfl, hb⟩
  by_cases h2 : 20 < (m : Int)
  · go_enter Try.func4, Try.ntmps4
    go_wp2_with fail
    refine (sane_any _).mono ?_
    rintro e w1 ⟨rfl, hb⟩
    go_wp2_with fail
    go_returns
    exact ⟨rfl, hb⟩
  obtain ⟨er, her⟩ : ∃ er, stE n f m t B = er := ⟨_, rfl⟩
  have HER := Lib.hid her
  obtain ⟨cnt, hcnt⟩ : ∃ cnt, (if er = 0 then selN (lessB f t) n + selN (moreB f t) n else 0) = cnt := ⟨_, rfl⟩
  have HCN := Lib.hid hcnt
  have hc20 : cnt ≤ 40 := by rw [← hcnt]; have h3 := selN_le (lessB f t) n; have h4 := selN_le (moreB f t) n; split <;> omega
  obtain ⟨xs, hxs⟩ : ∃ xs, (if er = 0 then selC (lessB f t) t n ++ selC (moreB f t) t n else []) = xs := ⟨_, rfl⟩
  have HXS := Lib.hid hxs
  have HXI : Hid (∀ v ∈ xs, ∃ z, v = Value.int .i64 z) := Lib.hid (by rw [← hxs]; exact steps_int)
  clear her hcnt hxs
  go_enter Try.func4, Try.ntmps4
  go_wp2_with fail
  refine (hSteps_any n cap ao f m dap bo t B _ hn HC.out hm HD.out).mono ?_
  unfold StepsR
  rw [HER.out, HCN.out, HXS.out]
  rintro e w1 ⟨⟨V, rfl, hV⟩, hb⟩
  obtain ⟨a1, c1, rfl, hr1⟩ := own_rats hV HXI.out
  have HC1 := Lib.hid (HC.out.keep hb)
  have HD1 := Lib.hid (HD.out.keep hb)
  have HB1 := Lib.hid hb
  have HI1 := Lib.hid hr1
  clear hb hV hr1
  go_wp2_with fail
  refine (rSteps_any n cap ao f m dap bo t B _ hn HC1.out hm HD1.out).mono ?_
  unfold StepsR
  rw [HER.out, HCN.out, HXS.out]
  rintro e w2 ⟨⟨V, rfl, hV⟩, hb⟩
  obtain ⟨a2, c2, rfl, hr2⟩ := own_rats hV HXI.out
  have HB2 := Lib.hid (HB1.out.trans (hb.mono HB1.out.size))
  have HI2 := Lib.hid (HI1.out.keep hb)
  have HI3 := Lib.hid hr2
  clear hb hV hr2 HI1
  obtain ⟨P, hP⟩ : ∃ P, intAt xs 0 = P := ⟨_, rfl⟩
  obtain ⟨Q, hQ⟩ : ∃ Q, intAt xs 1 = Q := ⟨_, rfl⟩
  rw [hP, hQ] at HI2 HI3
  clear hP hQ
  go_wp2_with fail
  go_loopw [11] (fun iv wr => ∃ (z : Int) (k : Nat), iv = .int .i64 z ∧ z = k ∧ k ≤ cnt ∧ Hid (Below w2.heap.size w2 wr)) (fun iv _ => cnt - (intOf iv).toNat)
  case atStart => exact ⟨0, 0, rfl, by omega, by omega, Lib.hid (Below.refl _ _)⟩
  case round =>
    obtain ⟨z, k, rfl, hz, hk, HB⟩ := hrel
    by_cases hlt : k < cnt
    · have hlt' : z < (cnt : Int) := by omega
      subst hz
      have k0 : (0 : Int) ≤ (k : Int) := by omega
      have wz : wrap64 ((k : Int) + 1) = (k : Int) + 1 := by simp only [wrap64]; omega
      obtain ⟨b, o, rfl, hcell⟩ := (HI2.out.keep HB.out) (Nat.zero_lt_of_lt hlt)
      obtain ⟨b', o', rfl, hcell'⟩ := (HI3.out.keep HB.out) (Nat.zero_lt_of_lt hlt)
      obtain ⟨g0, g1⟩ := hcell k hlt
      obtain ⟨g2, g3⟩ := hcell' k hlt
      have hne := fun w => run_neArr2 (P k) (Q k) w
      have HBd := Lib.hid HB.out.drew
      clear hcell hcell' HB
      go_wp2_with fail
      go_region
      go_wp2_with fail
      go_roundw
      case rel => exact ⟨(k : Int) + 1, k + 1, by first | rfl | rw [wz], by omega, by omega, HBd⟩
      case measure => first | (simp [intOf]; done) | (simp [intOf]; omega)
    · obtain rfl : k = cnt := by omega
      subst hz
      have HB3 := Lib.hid (HB2.out.trans (HB.out.mono HB2.out.size))
      go_wp2_with fail
      refine (sane_any _).mono ?_
      rintro e w4 ⟨rfl, hb⟩
      have D4 := HB3.out.trans (hb.mono HB3.out.size)
      clear hb
      go_wp2_with fail
      go_returns
      exact ⟨rfl, D4⟩
end Go.Proofs.Ytldepffpafccpaa
